import Derived.Test.YtcpbmphknonflaaGreatDoorPk1
import Derived.Test.YtcpbmphknonflaaGreatDoorGrg
import Derived.Test.YtcpbmphknonflaaGreatDoorTld
import Derived.Test.YtcpbmphknonflaaGreatDoorAwl
namespace Go.Proofs.YtcpbmphknonflaaGreatDoor
open Go.RowKit

theorem ownsRow_unique {w : World} {base e n : Nat} {v : Value} {xs ys : List Value} (h : w.ownsRow base e 1 v n xs) (h' : w.ownsRow base e 1 v n ys) : xs = ys := by
  have l1 := h.1
  have l2 := h'.1
  rcases h.2 with ⟨_, h0⟩ | ⟨g, cap, cur, rfl, _, hg, _, _, _, ht⟩
  · rw [h0] at l1 l2
    exact (List.eq_nil_of_length_eq_zero (by simpa using l1)).trans (List.eq_nil_of_length_eq_zero (by simpa using l2)).symm
  · rcases h'.2 with ⟨e2, _⟩ | ⟨g', cap', cur', e2, _, hg', _, _, _, ht'⟩
    · cases e2
    · cases e2
      rw [hg] at hg'
      cases hg'
      exact ht.symm.trans ht'
theorem own_at {w : World} {base e n k : Nat} {v : Value} {xs : List Value} (h : w.ownsRow base e 1 v n xs) (hk : v.ownBlock = some k) : ∃ m c, v = .slice (some ⟨k, 0, none⟩) m c := by
  rcases h.2 with ⟨rfl, _⟩ | ⟨g, cap, cur, rfl, _⟩
  · cases hk
  · cases hk
    exact ⟨_, _, rfl⟩
theorem Stp.grow {a b c : World} {F G : Nat → Prop} {P : Nat → Nat → Prop} {S : Nat → Prop} (h : Stp a b F G P) (hf : Fr S b c) (hS : ∀ k, S k → a.heap.size ≤ k) : Stp a c F G P := by
  have hs := h.fr.size
  refine ⟨h.fr.trans hf (fun i hi hx => by have := hS i hx; omega), h.new, fun g i hg hF hp => ?_, fun g i hg hF => ?_⟩
  · exact (hf.cell (p := ⟨g, i, none⟩) (by show g < b.heap.size; omega) (fun hx => by have := hS g hx; omega)).trans (h.oth g i hg hF hp)
  · exact (hf.frozen (p := ⟨g, i, none⟩) (by show g < b.heap.size; omega) (fun hx => by have := hS g hx; omega)).trans (h.fz g i hg hF)
set_option maxHeartbeats 2000000 in
set_option maxRecDepth 100000 in
theorem list_byt_r (q : Q) (nm : ByteArray) (m : Nat) (cb b g i kb : Nat) (F : Nat → Prop) (E : Nat → Addr) (w : World) (h : Cd w cb b F (.rd q) E) (hm : m ≤ 4096) (hp : w.cell? ⟨g, i, none⟩ = some (.slice none 0 0)) (hL : Loc w cb F g i) (hkb : w.cell? ⟨kb, 0, none⟩ = some (.pointer (some ⟨cb, 0, none⟩))) (hkF : ¬ F kb) (hkg : kb ≠ g) :
    Calls Tryz.prog 144 #[.pointer (some ⟨cb, 0, none⟩), .string nm, .pointer (some ⟨g, i, none⟩), .int .i64 (m : Nat), .func (.func 145) #[] #[.pointer (some ⟨kb, 0, none⟩)], .slice none 0 0] w fun e w' => e = .returned (.tuple #[]) ∧ ∃ F', Cd w' cb b F' (loopR (fun c v => c.pHash n_hash v) [] (min ((q.named nm).go 7 m).2.1 m) ((CS.rd q).pInt nm m (lrs m []) 0).1).1 E ∧ ∃ x, w'.cell? ⟨g, i, none⟩ = some x ∧ OwP w' w.heap.size x (loopR (fun c v => c.pHash n_hash v) [] (min ((q.named nm).go 7 m).2.1 m) ((CS.rd q).pInt nm m (lrs m []) 0).1).2 F' ∧ Stp w w' F F' (fun k j => k = g ∧ j = i) := by
  have k2 := h.g7.k2
  have hl2 := lt_of_cell k2
  have hsf := st_func
  have hent : ∀ (x : Value) (W : World), (callFunc 145 (#[x] ++ #[.pointer (some ⟨kb, 0, none⟩)])).run Tryz.prog W = .ok (.enter 145 (#[x] ++ #[.pointer (some ⟨kb, 0, none⟩)])) W := fun _ W => enters Tryz.func145 rfl rfl _ W
  have hhead := list_head (.rd q) nm 0 m [] cb b F E (.slice none 0 0) w h (by omega) (by omega) ⟨_, Rus.nil _ w E, fun _ h => h.elim⟩ (by decide) (by simp only [CS.room, CS.len]; omega) 3
  obtain ⟨c1, hc1⟩ : ∃ c1, c1 = ((CS.rd q).pInt nm m (lrs m []) 0).1 := ⟨_, rfl⟩
  obtain ⟨n, hn⟩ : ∃ n, n = ((q.named nm).go 7 m).2.1 := ⟨_, rfl⟩
  have hn1 : ((CS.rd q).pInt nm m (lrs m []) 0).2 = (n : Int) := by rw [hn]; rfl
  have hq1 : ∃ q', c1 = .rd q' := ⟨_, hc1⟩
  have hnlt : n < 4294967296 := by rw [hn]; exact (q.named nm).go_lt 7 m
  rw [← hc1, hn1] at hhead
  rw [← hc1, ← hn]
  clear hc1 hn1 hn
  have HG := hide hhead
  clear hhead
  obtain ⟨N, hN⟩ : ∃ N, N = min n m := ⟨_, rfl⟩
  rw [← hN]
  have hNm : N ≤ 4096 := by omega
  have HM := hide hN
  clear hN
  have HW := hide (within_int 0 m 2 E (w.alloc (.cells #[.int .i64 0] 3)) (by decide))
  have H := hide (And.intro h (And.intro hL (And.intro hkF hq1)))
  have hlp := hL.lt
  have hlk := lt_of_cell hkb
  clear h hL hq1
  go_enter Tryz.func144, Tryz.ntmps144
  go_wp2_with fail
  refine (unhide HW).mono ?_
  rintro e w1 ⟨fv, rfl, K0, hF, hf1, hK0⟩
  obtain ⟨ao, cp, w2, hr, hcall⟩ := (unhide HG) w1 fv K0 hF hf1 hK0 none 0 rfl
  obtain ⟨Fc, caps, rfl, _⟩ := hF.ex
  have HR := hide hr
  have HC := hide hcall
  clear hF hf1 hK0 hr hcall
  go_wp2_with (at_builtin; refine wpList_app rfl _ _ 279 279 rfl _ _ _ rfl rfl (unhide HR) ?_)
  refine (unhide HC).mono ?_
  rintro e w3 ⟨rfl, F3, hC3, hn3, hlt3, hnF3, hs3⟩
  have hp3 : w3.cell? ⟨g, i, none⟩ = some (.slice none 0 0) := (hs3.oth g i hlp (unhide H).2.1.nF (fun h => h)).trans hp
  have H3 := hide (And.intro hC3 (And.intro hs3 hp3))
  clear hC3 hs3 hlt3 hnF3 hp3
  by_cases hnm : n ≤ m
  all_goals
    go_wp2_with fail
    go_loopw [32] (fun iv wr => ∃ (k : Nat) (Fk : Nat → Prop) (x : Value), k ≤ N ∧ iv = .int .i64 (k : Nat) ∧ Cd wr cb b Fk (loopR (fun c v => c.pHash n_hash v) [] k c1).1 E ∧ (∃ q', (loopR (fun c v => c.pHash n_hash v) [] k c1).1 = .rd q') ∧ wr.cell? ⟨g, i, none⟩ = some x ∧ OwP wr w.heap.size x (loopR (fun c v => c.pHash n_hash v) [] k c1).2 Fk ∧ Stp w wr F Fk (fun k j => k = g ∧ j = i)) (fun iv _ => N - (intOf iv).toNat)
    case atStart => exact ⟨0, F3, .slice none 0 0, Nat.zero_le _, rfl, (unhide H3).1, (unhide H).2.2.2, (unhide H3).2.2, OwP.nil _ _ _, (unhide H3).2.1.mono (fun _ _ _ h => h.elim)⟩
    case round =>
      obtain ⟨k, Fk, x, hk, rfl, hCk, ⟨qk, hqk⟩, hxk, hOk, hsk2⟩ := hrel
      by_cases hlt : k < N
      · have hlt' : (k : Int) < (n : Int) := by have := unhide HM; omega
        have hltm : (k : Int) < (m : Int) := by have := unhide HM; omega
        have hkr : wr.cell? ⟨kb, 0, none⟩ = some (.pointer (some ⟨cb, 0, none⟩)) := (hsk2.oth kb 0 hlk (unhide H).2.2.1 (fun h => hkg h.1)).trans hkb
        rw [hqk] at hCk
        have h0r : wr.cell? ⟨cb, 0, none⟩ = some (.pointer none) := hCk.c0
        have h1r : wr.cell? ⟨cb, 1, none⟩ = some (.pointer (some ⟨b, 0, none⟩)) := hCk.c1
        have hlg := lt_of_cell hxk
        have hlkr := lt_of_cell hkr
        have hlcr := lt_of_cell h0r
        have hLk := (unhide H).2.1.stp hsk2
        have HK := hide (And.intro hCk (And.intro hsk2 (And.intro hOk (And.intro hqk hLk))))
        clear hCk hsk2 hqk hOk hLk
        go_wp2_with fail
        have hbx := box1 wr (.cells #[.slice none 0 0] 23)
        refine (proof1_any (.rd qk) (.slice none 0 0) [] cb b wr.heap.size 0 ⟨kb, 0, none⟩ Fk E _ ((unhide HK).1.fr0 hbx) ((hbx.cell hlkr (fun h => h)).trans hkr) (by simp) ⟨.inl ⟨rfl, rfl⟩, fun _ _ _ _ e => by cases e⟩ ((unhide HK).1.box _ _ 0) (by decide) (by simp only [CS.room, CS.len]; omega)).mono ?_
        rintro e w4 ⟨rfl, F4, x4, hC4, hx4, hown4, hno4, hs4⟩
        have hown4' : w4.ownsRow (wr.alloc (.cells #[.slice none 0 0] 23)).heap.size 5 1 x4 ((CS.rd qk).pHash n_hash []).2.length (cellsOf ((CS.rd qk).pHash n_hash []).2) := by
          rcases hown4 with ⟨⟨s, e⟩, _⟩ | ho
          · cases e
          · exact ho
        obtain ⟨p, hpv⟩ : ∃ p, p = ((CS.rd qk).pHash n_hash []).2 := ⟨_, rfl⟩
        rw [← hpv] at hown4'
        obtain ⟨a4, c4, rfl⟩ := own_form hown4'
        have hs14 : Stp wr w4 Fk F4 (fun k j => k = wr.heap.size ∧ j = 0) := (Stp.of_fr hbx Fk _).trans hs4 (fun _ _ _ h => h)
        have hwb : (wr.alloc (.cells #[.slice none 0 0] 23)).heap.size = wr.heap.size + 1 := by simp
        obtain ⟨psk, hpsk⟩ : ∃ psk, psk = (loopR (fun c v => c.pHash n_hash v) [] k c1).2 := ⟨_, rfl⟩
        have hOk := (unhide HK).2.2.1
        rw [← hpsk] at hOk
        obtain ⟨xo, xc, rfl⟩ := hOk.form
        have hOd : OwP w4.drew w.heap.size (.slice xo psk.length xc) psk F4 := (hOk.stp hs14 (fun k j _ hk h => by omega)).fr0 (Fr.drew (Fr.refl _ _))
        have hszw := (unhide HK).2.1.size
        have hszr := hs14.size
        have hxlt : ∀ k, (Value.slice xo psk.length xc).ownBlock = some k → k < wr.heap.size := fun k hk => by
          obtain ⟨us, _, h2, _⟩ := hOk.us
          exact (h2.lt k hk).2
        obtain ⟨ao', cap', w6, hr6, hO6, hf6⟩ := hOd.app a4 c4 p (by show w.heap.size ≤ w4.drew.heap.size; simp; omega) (own_mono (ownsRow_of_block hown4' (fun _ _ => rfl)) (by omega)) (fun k hk => ⟨(by obtain ⟨m', c', e'⟩ := own_at hown4' hk; exact hno4 k 0 m' c' e'), fun e => by have h1 := hxlt k e; have h2 := (hown4'.lt k hk).1; omega⟩)
          (fun us hus j u kk hu hkk e => by
            obtain ⟨us0, hl0, h2, h3, _⟩ := hOk.us
            have h2' : w4.drew.ownsRow w.heap.size 23 1 (.slice xo psk.length xc) psk.length us0 := ownsRow_of_block h2 (fun kx hkx => (hs14.block (h2.lt kx hkx).2 (hOk.nF kx hkx) (fun j h => by have := (h2.lt kx hkx).2; omega)))
            obtain rfl := ownsRow_unique hus h2'
            have hj : j < psk.length := by rw [← hl0]; exact (List.getElem?_eq_some_iff.1 hu).1
            have ho := (h3 j u _ hu (List.getElem?_eq_getElem hj)).lt kk e
            have := (hown4'.lt kk hkk).1
            omega) (fun k hk => hC4.lt k hk) (by rw [hpsk, loopR_len]; omega)
        rw [List.length_append, List.length_singleton] at hr6 hO6
        have h0w : w4.cell? ⟨cb, 1, none⟩ = some (.pointer (some ⟨b, 0, none⟩)) := hC4.c1
        have hp4 : w4.cell? ⟨g, i, none⟩ = some (.slice xo psk.length xc) := (hs14.oth g i hlg (unhide HK).2.2.2.2.nF (fun h => by omega)).trans hxk
        have fz4 : w4.frozen? ⟨g, i, none⟩ = false := (hs14.fz g i hlg (unhide HK).2.2.2.2.nF).trans (unhide HK).2.2.2.2.fz
        have hlg4 := lt_of_cell hp4
        have hlx4 := lt_of_cell hx4
        have hxlo : ∀ k, (Value.slice xo psk.length xc).ownBlock = some k → w.heap.size ≤ k := fun k hk => by
          obtain ⟨us, _, h2, _⟩ := hOk.us
          exact (h2.lt k hk).1
        have hp6 : w6.cell? ⟨g, i, none⟩ = some (.slice xo psk.length xc) := (hf6.cell (p := ⟨g, i, none⟩) hlg4 (fun h => by have := hxlo g h; omega)).trans hp4
        have fz6 : w6.frozen? ⟨g, i, none⟩ = false := (hf6.frozen (p := ⟨g, i, none⟩) hlg4 (fun h => by have := hxlo g h; omega)).trans fz4
        have hf46 : Fr (fun k => (Value.slice xo psk.length xc).ownBlock = some k) w4 w6 := ⟨hf6.os, hf6.tape, hf6.output, hf6.size, hf6.block⟩
        have hgF4 : ¬ F4 g := hs14.nF hlg (unhide HK).2.2.2.2.nF
        have hsW : Stp w (w6.setCell ⟨g, i, none⟩ (.slice ao' (psk.length + 1) cap')) F F4 (fun k j => k = g ∧ j = i) := ((((unhide HK).2.1.trans hs14 (fun k j hk h => by omega)).grow hf46 hxlo)).trans (Stp.set g i _) (fun _ _ _ h => h)
        have hC7 : Cd (w6.setCell ⟨g, i, none⟩ (.slice ao' (psk.length + 1) cap')) cb b F4 ((CS.rd qk).pHash n_hash []).1 E :=
          (hC4.fr hf46 (fun kk hk hS => hOd.nF kk hS hk) (fun hS => by have := hxlo cb hS; have := lt_of_cell (unhide H).1.c0; simp only at this; omega) (fun kk hS => by have := hxlo kk hS; have := (unhide H).2.1.lo; omega)).fr ((Fr.refl (fun kk => kk = g) _).setCell (.inl rfl) _) (fun kk hk e => hgF4 (e ▸ hk)) (fun e => (unhide H).2.1.nc e.symm) (fun kk e => by rw [e]; exact (unhide H).2.1.lo)
        have hO7 : OwP (w6.setCell ⟨g, i, none⟩ (.slice ao' (psk.length + 1) cap')) w.heap.size (.slice ao' (psk.length + 1) cap') (psk ++ [p]) F4 := hO6.stp (Stp.set g i _) (fun kk j hb _ h => by omega)
        have hc7 : (w6.setCell ⟨g, i, none⟩ (.slice ao' (psk.length + 1) cap')).cell? ⟨g, i, none⟩ = some (.slice ao' (psk.length + 1) cap') := World.cell?_setCell_same _ _ _ hp6
        have e1 : (loopR (fun c v => c.pHash n_hash v) [] (k + 1) c1).1 = ((CS.rd qk).pHash n_hash []).1 := by
          show ((loopR (fun c v => c.pHash n_hash v) [] k c1).1.pHash n_hash []).1 = _
          rw [(unhide HK).2.2.2.1]
        have e2 : (loopR (fun c v => c.pHash n_hash v) [] (k + 1) c1).2 = psk ++ [p] := by
          show (loopR (fun c v => c.pHash n_hash v) [] k c1).2 ++ [((loopR (fun c v => c.pHash n_hash v) [] k c1).1.pHash n_hash []).2] = _
          rw [(unhide HK).2.2.2.1, hpsk, hpv]
        rw [← e1] at hC7
        have hq7 : ∃ q', (loopR (fun c v => c.pHash n_hash v) [] (k + 1) c1).1 = .rd q' := by rw [e1]; exact ⟨_, rfl⟩
        have hO7' : OwP (w6.setCell ⟨g, i, none⟩ (.slice ao' (psk.length + 1) cap')) w.heap.size (.slice ao' (psk.length + 1) cap') (loopR (fun c v => c.pHash n_hash v) [] (k + 1) c1).2 F4 := by rw [e2]; exact hO7
        have HFIN := hide (And.intro hC7 (And.intro hq7 (And.intro hc7 (And.intro hO7' hsW))))
        clear hf46 hsW hC7 hO7 hO7' hc7 e1 e2 hq7 hgF4
        have HR6 := hide hr6
        clear hxlo hr6 hO6 hf6 hC4 hs14 hs4 hown4 hown4' hno4 hOk hOd hpv hpsk hxlt hbx
        go_wp2_with fail
        go_region_law (refine step_app rfl (.tmp 56) (.tmp 58) 38 38 rfl _ _ _ (by simp [Act.eval]) (by simp [Act.eval]) (unhide HR6) ?_)
        all_goals
          go_wp2_with fail
          exact ⟨⟨k + 1, F4, _, by omega, by go_num, (unhide HFIN).1, (unhide HFIN).2.1, (unhide HFIN).2.2.1, (unhide HFIN).2.2.2.1, (unhide HFIN).2.2.2.2⟩, by simp [intOf]; omega⟩
      · have hkN : k = N := by omega
        have HK := hide (And.intro hCk (And.intro hsk2 (And.intro hOk hxk)))
        clear hCk hqk hsk2 hOk
        first
          | (have hlt' : ¬ (k : Int) < (n : Int) := by have := unhide HM; omega
             go_wp2_with fail)
          | (have hlt' : ¬ (k : Int) < (m : Int) := by have := unhide HM; omega
             go_wp2_with fail)
        go_end0
        rw [hkN] at HK
        exact ⟨rfl, Fk, (unhide HK).1, x, (unhide HK).2.2.2, (unhide HK).2.2.1, (unhide HK).2.1⟩
end Go.Proofs.YtcpbmphknonflaaGreatDoor

namespace Go.Proofs.YtcpbmphknonflaaGreatDoor
open Go.RowKit

def CS.pForm (c : CS) (k : Nat) : CS := (c.pU8 n_form [wiN k k 5] k).1
/-- One rule, handed on. -/
theorem ruc_one {α : Type} {en : World → Value → α → Prop} {w w1 : World} {cb b g i : Nat} {F K0 : Nat → Prop} {c : CS} {E : Nat → Addr} {r : α → Nat} {fv : Value} (T : TypeId) (h : Cd w cb b F c E) (hL : Loc w cb F g i) (hF : FnR en w1 K0 fv E r) (hf : Fr (fun _ => False) w w1) (hK : Knew w K0) :
    RuC en (w1.alloc (.cells #[fv] T)) F g (.slice (some ⟨w1.heap.size, 0, none⟩) 1 1) E [r] := by
  have hb := box1 w1 (.cells #[fv] T)
  have hlt : ∀ k, (K0 k ∨ k = w1.heap.size) → k < (w1.alloc (.cells #[fv] T)).heap.size := fun k hk => by
    rcases hk with hk | rfl
    · exact Nat.lt_of_lt_of_le (hF.lt k hk) hb.size
    · simp
  refine ⟨⟨fun k => K0 k ∨ k = w1.heap.size, ⟨hlt, ⟨_, _, rfl⟩, fun _ _ _ e => .inr ⟨w1.heap.size, 0, by cases e; rfl⟩, fun xo n c' e j r' hr => ?_⟩, fun k hk => ?_⟩, by simp⟩
  · have ex : xo = some ⟨w1.heap.size, 0, none⟩ := by cases e; rfl
    have hj : j = 0 := by
      have := (List.getElem?_eq_some_iff.1 hr).1
      simp at this; exact this
    subst hj
    obtain rfl : r = r' := by simpa using hr
    exact ⟨w1.heap.size, 0, fv, ex, .inr rfl, by simp, hF.mono (fun k hk => hb.block k (hF.lt k hk) (fun h => h)) (fun _ h => .inl h) hlt⟩
  · rcases hk with hk | rfl
    · exact knew_apart h hL hK k hk
    · have h1 := hf.size
      have h2 := hL.lt
      exact ⟨fun hx => by have := h.lt _ hx; omega, by omega⟩
set_option maxRecDepth 100000 in
/-- form. -/
theorem form_any (c : CS) (k : Nat) (cb b : Nat) (F : Nat → Prop) (E : Nat → Addr) (w : World) (h : Cd w cb b F c E) (hk : k < 256) (hroom : c.room 1) :
    Calls Tryz.prog 109 #[.pointer (some ⟨cb, 0, none⟩), .int .u8 (k : Nat)] w fun e w' => e = .returned (.tuple #[]) ∧ ∃ F', Cd w' cb b F' (c.pForm k) E ∧ Stp w w' F F' (fun _ _ => False) := by
  have k5 := h.g7.k5
  have hl5 := lt_of_cell k5
  have hsf := st_func
  have hbx := box1 w (.cells #[.int .u8 (k : Nat)] 5)
  have HW := hide (within_u8 k k 5 E (w.alloc (.cells #[.int .u8 (k : Nat)] 5)) (by decide))
  have hgo : ∀ w1 fv K0, FnR enU8 w1 K0 fv E (wiN k k 5) → Fr (fun _ => False) (w.alloc (.cells #[.int .u8 (k : Nat)] 5)) w1 → Knew (w.alloc (.cells #[.int .u8 (k : Nat)] 5)) K0 → ∀ T,
      Calls Tryz.prog 129 #[.pointer (some ⟨cb, 0, none⟩), .string n_form, .pointer (some ⟨w.heap.size, 0, none⟩), .slice (some ⟨w1.heap.size, 0, none⟩) 1 1] (w1.alloc (.cells #[fv] T)) fun e w' => e = .returned (.tuple #[]) ∧ ∃ F', Cd w' cb b F' (c.pForm k) E ∧ Stp w w' F F' (fun _ _ => False) := by
    intro w1 fv K0 hF hf hK T
    have hf2 := hf.trans (box1 w1 (.cells #[fv] T)) (fun _ _ h => h)
    have hf02 := hbx.trans hf2 (fun _ _ h => h)
    have hL0 := h.box #[.int .u8 (k : Nat)] 5 0
    refine (number_u8 c n_form [wiN k k 5] k cb b w.heap.size 0 F E _ _ (h.fr0 hf02) ((hf2.cell (p := ⟨w.heap.size, 0, none⟩) (by simp) (fun h => h)).trans (by simp)) (hL0.fr0 hf2) hk (ruc_one T (h.fr0 hbx) hL0 hF hf hK) hroom).mono ?_
    rintro e w' ⟨rfl, F', hC, _, hs⟩
    exact ⟨rfl, F', hC, (Stp.of_fr hf02 F _).trans hs (fun k j hk h => by omega)⟩
  have HG := hide hgo
  clear h hgo
  go_enter Tryz.func109, Tryz.ntmps109
  go_wp2_with fail
  refine (unhide HW).mono ?_
  rintro e w1 ⟨fv, rfl, K0, hF, hf, hK⟩
  have HX := hide ((unhide HG) w1 fv K0 hF hf hK 242)
  obtain ⟨Fc, caps, rfl, _⟩ := hF.ex
  clear hF hf hK
  go_wp2_with fail
  refine (unhide HX).mono ?_
  rintro e w' ⟨rfl, hr⟩
  have HR := hide hr
  clear hr
  go_wp2_with fail
  go_end0
  exact ⟨rfl, unhide HR⟩
/-- Bytes of a thing that lies in block g: they lie elsewhere. -/
structure BVg (w : World) (x : Value) (l : List Nat) (F : Nat → Prop) (g : Nat) : Prop where
  bv : BV w x l F
  ng : ∀ k o m c, x = .slice (some ⟨k, o, none⟩) m c → k ≠ g
  len : l.length < 9223372036854775808
theorem BVg.stp {w w' : World} {x : Value} {l : List Nat} {F F' : Nat → Prop} {P : Nat → Nat → Prop} {g : Nat} (h : BVg w x l F g) (hs : Stp w w' F F' P) (hP : ∀ k i, k < w.heap.size → P k i → k = g) : BVg w' x l F' g :=
  ⟨h.bv.stp hs (fun k o m c e i hp => h.ng k o m c e (hP k i (h.bv.at_ k o m c e).1 hp)), h.ng, h.len⟩
/-- What came of bytes that were gone along since w0: a reader's are its own. -/
structure BO (w0 w : World) (c : CS) (x' : Value) (l' : List Nat) (F : Nat → Prop) (g : Nat) : Prop where
  bv : BVg w x' l' F g
  val : ∀ q, c = .rd q → w.ownsRow w0.heap.size 5 1 x' l'.length (cellsOf l')
theorem BO.stp {w0 w w' : World} {c : CS} {x' : Value} {l' : List Nat} {F F' : Nat → Prop} {P : Nat → Nat → Prop} {g : Nat} (h : BO w0 w c x' l' F g) (hs : Stp w w' F F' P) (hP : ∀ k i, k < w.heap.size → P k i → k = g) : BO w0 w' c x' l' F' g := by
  refine ⟨h.bv.stp hs hP, fun q hq => ownsRow_of_block (h.val q hq) (fun k hk => ?_)⟩
  obtain ⟨m, c', e⟩ := own_at (h.val q hq) hk
  have ha := h.bv.bv.at_ k 0 m c' e
  exact hs.block ha.1 ha.2 (fun j hp => h.bv.ng k 0 m c' e (hP k j ha.1 hp))
theorem BO.mode {w0 w1 w : World} {c c1 : CS} {x' : Value} {l' : List Nat} {F : Nat → Prop} {g : Nat} (h : BO w1 w c1 x' l' F g) (hs : w0.heap.size ≤ w1.heap.size) (hm : ∀ q, c = .rd q → ∃ q', c1 = .rd q') : BO w0 w c x' l' F g :=
  ⟨h.bv, fun q hq => by obtain ⟨q', h1⟩ := hm q hq; exact own_mono (h.val q' h1) hs⟩
theorem bo_of {w w' : World} {cb b g i : Nat} {c : CS} {E : Nat → Addr} {nm : ByteArray} {m : Int} {rs : List (List Nat → Nat)} {x x' : Value} {v : List Nat} {F F' : Nat → Prop} (h : Cd w cb b F c E) (hB : BVg w x v F g) (hg : g < w.heap.size) (hs : Stp w w' F F' (fun k j => k = g ∧ j = i))
    (hx : ((∃ s, c = .wr s) ∧ x' = x) ∨ w'.ownsRow w.heap.size 5 1 x' (c.pByt nm m rs v).2.length (cellsOf (c.pByt nm m rs v).2)) (hno : ∀ k o m c, x' = .slice (some ⟨k, o, none⟩) m c → ¬ F' k) : BO w w' c x' (c.pByt nm m rs v).2 F' g := by
  rcases hx with ⟨⟨s, rfl⟩, rfl⟩ | hown
  · exact ⟨hB.stp hs (fun k j _ h => h.1), fun q e => by cases e⟩
  · exact ⟨⟨⟨own_src hown, fun k o m c e => ⟨(hown.lt k (by rw [e]; rfl)).2, hno k o m c e⟩⟩, fun k o m c e => by have := (hown.lt k (by rw [e]; rfl)).1; omega, CS.pByt_lt h nm m rs v hB.len⟩, fun _ _ => hown⟩
def CS.pHead (c : CS) (v : Nat × List Nat) : CS × Nat × List Nat := (((c.pU32 n_size [] v.1).1.pHash n_root v.2).1, (c.pU32 n_size [] v.1).2, ((c.pU32 n_size [] v.1).1.pHash n_root v.2).2)
/-- How many cells of a thing may have turned. -/
def cellsAt (g o n : Nat) (k j : Nat) : Prop := k = g ∧ o ≤ j ∧ j < o + n
theorem CS.pU32_mode (c : CS) (nm : ByteArray) (rs : List (Nat → Nat)) (v : Nat) : ∀ q, c = .rd q → ∃ q', (c.pU32 nm rs v).1 = .rd q' := by rintro q rfl; exact ⟨_, rfl⟩
set_option maxRecDepth 100000 in
/-- head. -/
theorem head_any (c : CS) (size : Nat) (root : List Nat) (x : Value) (cb b g o : Nat) (F : Nat → Prop) (E : Nat → Addr) (w : World) (h : Cd w cb b F c E) (hp0 : w.cell? ⟨g, o, none⟩ = some (.int .u32 (size : Nat))) (hp1 : w.cell? ⟨g, o + 1, none⟩ = some x) (hB : BVg w x root F g) (hL : ∀ i, Loc w cb F g i) (hsz : size < 4294967296) (hroom : c.room 2) :
    Calls Tryz.prog 113 #[.pointer (some ⟨cb, 0, none⟩), .pointer (some ⟨g, o, none⟩)] w fun e w' => e = .returned (.tuple #[]) ∧ ∃ F', Cd w' cb b F' (c.pHead (size, root)).1 E ∧ w'.cell? ⟨g, o, none⟩ = some (.int .u32 ((c.pHead (size, root)).2.1 : Nat)) ∧ ∃ x', w'.cell? ⟨g, o + 1, none⟩ = some x' ∧ BO w w' c x' (c.pHead (size, root)).2.2 F' g ∧ Stp w w' F F' (cellsAt g o 2) := by
  have H := hide (And.intro h (And.intro hB hL))
  have HN := hide (number_u32 c n_size [] size cb b g o F E (.slice none 0 0) w h hp0 (hL o) hsz (RuC.nil _ w F g E) (by simp only [CS.room] at *; omega))
  clear h hB hL
  go_enter Tryz.func113, Tryz.ntmps113
  go_wp2_with fail
  refine (unhide HN).mono ?_
  rintro e w1 ⟨rfl, F1, hC1, hc1, hs1⟩
  have hgl := ((unhide H).2.2 o).lt
  have hgF := ((unhide H).2.2 o).nF
  have hB1 := (unhide H).2.1.stp hs1 (fun k i _ h => h.1)
  have hp1' : w1.cell? ⟨g, o + 1, none⟩ = some x := (hs1.oth g (o + 1) hgl hgF (fun h => by omega)).trans hp1
  have HH := hide (hash_any (c.pU32 n_size [] size).1 n_root x root cb b g (o + 1) F1 E w1 hC1 hp1' hB1.bv (((unhide H).2.2 (o + 1)).stp hs1) hB1.len (CS.pU32_room (by simpa using hroom) _ _ _))
  have H1 := hide (And.intro hs1 (And.intro hc1 (And.intro hC1 hB1)))
  clear hC1 hs1 hB1 hp1' hc1
  go_wp2_with fail
  refine (unhide HH).mono ?_
  rintro e w2 ⟨rfl, F2, x2, hC2, hx2, ho2, hn2, hs2⟩
  have hgl1 := Nat.lt_of_lt_of_le hgl (unhide H1).1.size
  have hc2 : w2.cell? ⟨g, o, none⟩ = some (.int .u32 ((c.pU32 n_size [] size).2 : Nat)) := (hs2.oth g o hgl1 ((unhide H1).1.nF hgl hgF) (fun h => by omega)).trans (unhide H1).2.1
  have hbo := (bo_of (unhide H1).2.2.1 (unhide H1).2.2.2 hgl1 hs2 ho2 hn2).mode (unhide H1).1.size (c.pU32_mode n_size [] size)
  have H2 := hide (And.intro hC2 (And.intro hc2 (And.intro hx2 (And.intro hbo (((unhide H1).1.mono (P' := cellsAt g o 2) (fun k j _ h => ⟨h.1, by omega, by omega⟩)).trans hs2 (fun k j _ h => ⟨h.1, by omega, by omega⟩))))))
  clear hC2 hc2 hx2 ho2 hn2 hs2 hbo
  go_wp2_with fail
  go_end0
  exact ⟨rfl, F2, (unhide H2).1, (unhide H2).2.1, x2, (unhide H2).2.2.1, (unhide H2).2.2.2.1, (unhide H2).2.2.2.2⟩
end Go.Proofs.YtcpbmphknonflaaGreatDoor

namespace Go.Proofs.YtcpbmphknonflaaGreatDoor
open Go.RowKit

theorem Tryz.wh_Request (p : Addr) (w : World) : (Instr.typeAssert (.iface 158 (.pointer (some p))) 20 158 true).run Tryz.prog w = .ok (.tuple #[.pointer (some p), .bool true]) w := by kernel_rfl
theorem Tryz.wh_Answer (p : Addr) (w : World) : (Instr.typeAssert (.iface 159 (.pointer (some p))) 20 159 true).run Tryz.prog w = .ok (.tuple #[.pointer (some p), .bool true]) w := by kernel_rfl
theorem Tryz.wm_Answer_Request (p : Addr) (w : World) : (Instr.typeAssert (.iface 159 (.pointer (some p))) 20 158 true).run Tryz.prog w = .ok (.tuple #[.pointer none, .bool false]) w := by kernel_rfl
theorem Tryz.wh_Event (p : Addr) (w : World) : (Instr.typeAssert (.iface 213 (.pointer (some p))) 20 213 true).run Tryz.prog w = .ok (.tuple #[.pointer (some p), .bool true]) w := by kernel_rfl
theorem Tryz.wm_Event_Request (p : Addr) (w : World) : (Instr.typeAssert (.iface 213 (.pointer (some p))) 20 158 true).run Tryz.prog w = .ok (.tuple #[.pointer none, .bool false]) w := by kernel_rfl
theorem Tryz.wm_Event_Answer (p : Addr) (w : World) : (Instr.typeAssert (.iface 213 (.pointer (some p))) 20 159 true).run Tryz.prog w = .ok (.tuple #[.pointer none, .bool false]) w := by kernel_rfl
theorem Tryz.wh_Head (p : Addr) (w : World) : (Instr.typeAssert (.iface 178 (.pointer (some p))) 20 178 true).run Tryz.prog w = .ok (.tuple #[.pointer (some p), .bool true]) w := by kernel_rfl
theorem Tryz.wm_Head_Request (p : Addr) (w : World) : (Instr.typeAssert (.iface 178 (.pointer (some p))) 20 158 true).run Tryz.prog w = .ok (.tuple #[.pointer none, .bool false]) w := by kernel_rfl
theorem Tryz.wm_Head_Answer (p : Addr) (w : World) : (Instr.typeAssert (.iface 178 (.pointer (some p))) 20 159 true).run Tryz.prog w = .ok (.tuple #[.pointer none, .bool false]) w := by kernel_rfl
theorem Tryz.wm_Head_Event (p : Addr) (w : World) : (Instr.typeAssert (.iface 178 (.pointer (some p))) 20 213 true).run Tryz.prog w = .ok (.tuple #[.pointer none, .bool false]) w := by kernel_rfl
theorem Tryz.wh_Signed (p : Addr) (w : World) : (Instr.typeAssert (.iface 177 (.pointer (some p))) 20 177 true).run Tryz.prog w = .ok (.tuple #[.pointer (some p), .bool true]) w := by kernel_rfl
theorem Tryz.wm_Signed_Request (p : Addr) (w : World) : (Instr.typeAssert (.iface 177 (.pointer (some p))) 20 158 true).run Tryz.prog w = .ok (.tuple #[.pointer none, .bool false]) w := by kernel_rfl
theorem Tryz.wm_Signed_Answer (p : Addr) (w : World) : (Instr.typeAssert (.iface 177 (.pointer (some p))) 20 159 true).run Tryz.prog w = .ok (.tuple #[.pointer none, .bool false]) w := by kernel_rfl
theorem Tryz.wm_Signed_Event (p : Addr) (w : World) : (Instr.typeAssert (.iface 177 (.pointer (some p))) 20 213 true).run Tryz.prog w = .ok (.tuple #[.pointer none, .bool false]) w := by kernel_rfl
theorem Tryz.wm_Signed_Head (p : Addr) (w : World) : (Instr.typeAssert (.iface 177 (.pointer (some p))) 20 178 true).run Tryz.prog w = .ok (.tuple #[.pointer none, .bool false]) w := by kernel_rfl
theorem Tryz.wh_Proof (p : Addr) (w : World) : (Instr.typeAssert (.iface 174 (.pointer (some p))) 20 174 true).run Tryz.prog w = .ok (.tuple #[.pointer (some p), .bool true]) w := by kernel_rfl
theorem Tryz.wm_Proof_Request (p : Addr) (w : World) : (Instr.typeAssert (.iface 174 (.pointer (some p))) 20 158 true).run Tryz.prog w = .ok (.tuple #[.pointer none, .bool false]) w := by kernel_rfl
theorem Tryz.wm_Proof_Answer (p : Addr) (w : World) : (Instr.typeAssert (.iface 174 (.pointer (some p))) 20 159 true).run Tryz.prog w = .ok (.tuple #[.pointer none, .bool false]) w := by kernel_rfl
theorem Tryz.wm_Proof_Event (p : Addr) (w : World) : (Instr.typeAssert (.iface 174 (.pointer (some p))) 20 213 true).run Tryz.prog w = .ok (.tuple #[.pointer none, .bool false]) w := by kernel_rfl
theorem Tryz.wm_Proof_Head (p : Addr) (w : World) : (Instr.typeAssert (.iface 174 (.pointer (some p))) 20 178 true).run Tryz.prog w = .ok (.tuple #[.pointer none, .bool false]) w := by kernel_rfl
theorem Tryz.wm_Proof_Signed (p : Addr) (w : World) : (Instr.typeAssert (.iface 174 (.pointer (some p))) 20 177 true).run Tryz.prog w = .ok (.tuple #[.pointer none, .bool false]) w := by kernel_rfl
theorem Tryz.wh_Message (p : Addr) (w : World) : (Instr.typeAssert (.iface 146 (.pointer (some p))) 20 146 true).run Tryz.prog w = .ok (.tuple #[.pointer (some p), .bool true]) w := by kernel_rfl
theorem Tryz.wm_Message_Request (p : Addr) (w : World) : (Instr.typeAssert (.iface 146 (.pointer (some p))) 20 158 true).run Tryz.prog w = .ok (.tuple #[.pointer none, .bool false]) w := by kernel_rfl
theorem Tryz.wm_Message_Answer (p : Addr) (w : World) : (Instr.typeAssert (.iface 146 (.pointer (some p))) 20 159 true).run Tryz.prog w = .ok (.tuple #[.pointer none, .bool false]) w := by kernel_rfl
theorem Tryz.wm_Message_Event (p : Addr) (w : World) : (Instr.typeAssert (.iface 146 (.pointer (some p))) 20 213 true).run Tryz.prog w = .ok (.tuple #[.pointer none, .bool false]) w := by kernel_rfl
theorem Tryz.wm_Message_Head (p : Addr) (w : World) : (Instr.typeAssert (.iface 146 (.pointer (some p))) 20 178 true).run Tryz.prog w = .ok (.tuple #[.pointer none, .bool false]) w := by kernel_rfl
theorem Tryz.wm_Message_Signed (p : Addr) (w : World) : (Instr.typeAssert (.iface 146 (.pointer (some p))) 20 177 true).run Tryz.prog w = .ok (.tuple #[.pointer none, .bool false]) w := by kernel_rfl
theorem Tryz.wm_Message_Proof (p : Addr) (w : World) : (Instr.typeAssert (.iface 146 (.pointer (some p))) 20 174 true).run Tryz.prog w = .ok (.tuple #[.pointer none, .bool false]) w := by kernel_rfl

theorem CS.pHash_mode (c : CS) (nm : ByteArray) (v : List Nat) : ∀ q, c = .rd q → ∃ q', (c.pHash nm v).1 = .rd q' := by rintro q rfl; exact ⟨_, rfl⟩
theorem CS.pHead_mode (c : CS) (v : Nat × List Nat) : ∀ q, c = .rd q → ∃ q', (c.pHead v).1 = .rd q' := by rintro q rfl; exact ⟨_, rfl⟩
theorem CS.pHead_room {c : CS} {n : Nat} (h : c.room (n + 2)) (v : Nat × List Nat) : (c.pHead v).1.room n := CS.pHash_room (CS.pU32_room h _ _ _) _ _
/-- A signed head: size, root, key, signature. -/
def CS.pSigned (c : CS) (v : (Nat × List Nat) × Nat × List Nat) : CS × (Nat × List Nat) × Nat × List Nat :=
  ((((c.pHead v.1).1.pU32 n_key [] v.2.1).1.pByt n_signature 32768 [fun v => szN 0 32768 v.length] v.2.2).1, (c.pHead v.1).2, ((c.pHead v.1).1.pU32 n_key [] v.2.1).2, (((c.pHead v.1).1.pU32 n_key [] v.2.1).1.pByt n_signature 32768 [fun v => szN 0 32768 v.length] v.2.2).2)
set_option maxRecDepth 100000 in
/-- signed. -/
theorem signed_any (c : CS) (size key : Nat) (root sig : List Nat) (x y : Value) (cb b g o : Nat) (F : Nat → Prop) (E : Nat → Addr) (w : World) (h : Cd w cb b F c E) (hp0 : w.cell? ⟨g, o, none⟩ = some (.int .u32 (size : Nat))) (hp1 : w.cell? ⟨g, o + 1, none⟩ = some x) (hp2 : w.cell? ⟨g, o + 2, none⟩ = some (.int .u32 (key : Nat))) (hp3 : w.cell? ⟨g, o + 3, none⟩ = some y) (hB : BVg w x root F g) (hB2 : BVg w y sig F g) (hL : ∀ i, Loc w cb F g i) (hsz : size < 4294967296) (hkey : key < 4294967296) (hroom : c.room 4) :
    Calls Tryz.prog 114 #[.pointer (some ⟨cb, 0, none⟩), .pointer (some ⟨g, o, none⟩)] w fun e w' => e = .returned (.tuple #[]) ∧ ∃ F', Cd w' cb b F' (c.pSigned ((size, root), key, sig)).1 E ∧ w'.cell? ⟨g, o, none⟩ = some (.int .u32 ((c.pSigned ((size, root), key, sig)).2.1.1 : Nat)) ∧ w'.cell? ⟨g, o + 2, none⟩ = some (.int .u32 ((c.pSigned ((size, root), key, sig)).2.2.1 : Nat)) ∧ ∃ x' y', w'.cell? ⟨g, o + 1, none⟩ = some x' ∧ w'.cell? ⟨g, o + 3, none⟩ = some y' ∧ BO w w' c x' (c.pSigned ((size, root), key, sig)).2.1.2 F' g ∧ BO w w' c y' (c.pSigned ((size, root), key, sig)).2.2.2 F' g ∧ Stp w w' F F' (cellsAt g o 4) := by
  have H := hide (And.intro h (And.intro hB2 hL))
  have HH := hide (head_any c size root x cb b g o F E w h hp0 hp1 hB hL hsz (by simp only [CS.room] at *; omega))
  have hgl := (hL o).lt
  have hgF := (hL o).nF
  clear h hB hB2 hL
  go_enter Tryz.func114, Tryz.ntmps114
  go_wp2_with fail
  refine (unhide HH).mono ?_
  rintro e w1 ⟨rfl, F1, hC1, hc1, x1, hx1, ho1, hs1⟩
  have hgl1 := Nat.lt_of_lt_of_le hgl hs1.size
  have hgF1 := hs1.nF hgl hgF
  have hp2' : w1.cell? ⟨g, o + 2, none⟩ = some (.int .u32 (key : Nat)) := (hs1.oth g (o + 2) hgl hgF (fun h => by have := h.2; omega)).trans hp2
  have hp3' : w1.cell? ⟨g, o + 3, none⟩ = some y := (hs1.oth g (o + 3) hgl hgF (fun h => by have := h.2; omega)).trans hp3
  have hB1 := (unhide H).2.1.stp hs1 (fun k i _ h => h.1)
  have hr1 : (c.pHead (size, root)).1.room 2 := CS.pHead_room (by simpa using hroom) _
  have HN := hide (number_u32 (c.pHead (size, root)).1 n_key [] key cb b g (o + 2) F1 E (.slice none 0 0) w1 hC1 hp2' (((unhide H).2.2 (o + 2)).stp hs1) hkey (RuC.nil _ w1 F1 g E) (by simp only [CS.room] at *; omega))
  have H1 := hide (And.intro hs1 (And.intro hc1 (And.intro hC1 (And.intro hB1 (And.intro hx1 (And.intro ho1 (And.intro hp3' (And.intro hgF1 hr1))))))))
  clear hs1 hc1 hC1 hB1 hx1 ho1 hp3' hgF1 hr1
  go_wp2_with fail
  refine (unhide HN).mono ?_
  rintro e w2 ⟨rfl, F2, hC2, hc2, hs2⟩
  obtain ⟨hs1, hc1, hC1, hB1, hx1, ho1, hp3', hgF1, hr1⟩ := unhide H1
  have hgl2 := Nat.lt_of_lt_of_le hgl1 hs2.size
  have hgF2 := hs2.nF hgl1 hgF1
  have hP2 : ∀ k i, k < w1.heap.size → (k = g ∧ i = o + 2) → k = g := fun k i _ h => h.1
  have hB2 := hB1.stp hs2 hP2
  have hp3'' : w2.cell? ⟨g, o + 3, none⟩ = some y := (hs2.oth g (o + 3) hgl1 hgF1 (fun h => by omega)).trans hp3'
  have hr2 := CS.pU32_room (n := 1) hr1 n_key [] key
  have HR := hide (run_byt ((c.pHead (size, root)).1.pU32 n_key [] key).1 n_signature 0 32768 [] y sig cb b g (o + 3) F2 E (.slice none 0 0) w2 hC2 hp3'' hB2.bv ((((unhide H).2.2 (o + 3)).stp hs1).stp hs2) hB2.len (by decide) (RuC.nil _ w2 F2 g E) (by decide) hr2)
  have hx2 : w2.cell? ⟨g, o + 1, none⟩ = some x1 := (hs2.oth g (o + 1) hgl1 hgF1 (fun h => by omega)).trans hx1
  have hz2 : w2.cell? ⟨g, o, none⟩ = some (.int .u32 ((c.pHead (size, root)).2.1 : Nat)) := (hs2.oth g o hgl1 hgF1 (fun h => by omega)).trans hc1
  have ho2 := ho1.stp hs2 hP2
  have hs02 : Stp w w2 F F2 (cellsAt g o 4) := (hs1.mono (fun k j _ h => ⟨h.1, h.2.1, by have := h.2.2; omega⟩)).trans hs2 (fun k j _ h => ⟨h.1, by omega, by omega⟩)
  have H2 := hide (And.intro hs02 (And.intro hc2 (And.intro hC2 (And.intro hB2 (And.intro hx2 (And.intro ho2 (And.intro hz2 (And.intro hgF2 hgl2))))))))
  clear hs1 hc1 hC1 hB1 hx1 ho1 hp3' hgF1 hr1 hs2 hc2 hC2 hB2 hx2 ho2 hp3'' hgF2 hr2 hP2 hs02 hz2 H1 HN HH
  go_wp2_with fail
  refine (unhide HR).mono ?_
  rintro e w3 ⟨rfl, F3, y3, hC3, hy3, hyo, hyn, hs3⟩
  obtain ⟨hs02, hc2, hC2, hB2, hx2, ho2, hz2, hgF2, hgl2⟩ := unhide H2
  have hbo := (bo_of hC2 hB2 hgl2 hs3 hyo hyn).mode (w0 := w) (c := c) hs02.size (by rintro q rfl; exact ⟨_, rfl⟩)
  have H3 := hide (And.intro hC3 (And.intro ((hs3.oth g o hgl2 hgF2 (fun h => by omega)).trans hz2) (And.intro ((hs3.oth g (o + 2) hgl2 hgF2 (fun h => by omega)).trans hc2) (And.intro ((hs3.oth g (o + 1) hgl2 hgF2 (fun h => by omega)).trans hx2) (And.intro hy3 (And.intro (ho2.stp hs3 (fun k j _ h => h.1)) (And.intro hbo (hs02.trans hs3 (fun k j _ h => ⟨h.1, by omega, by omega⟩)))))))))
  clear hC3 hy3 hyo hyn hs3 hs02 hc2 hC2 hB2 hx2 ho2 hz2 hgF2 hgl2 hbo
  go_wp2_with fail
  go_end0
  obtain ⟨a1, a2, a3, a4, a5, a6, a7, a8⟩ := unhide H3
  exact ⟨rfl, F3, a1, a2, a3, x1, y3, a4, a5, a6, a7, a8⟩
end Go.Proofs.YtcpbmphknonflaaGreatDoor

namespace Go.Proofs.YtcpbmphknonflaaGreatDoor
open Go.RowKit

/-- The fault of the ref's reader. -/
def ftV (x : Option (ByteArray × Nat × Nat)) : ByteArray × Nat × Nat := match x with
  | none => (⟨#[]⟩, 0, 0)
  | some y => y
/-- A ref's reader that has q. -/
def Q.ref (q : Q) (xo : Option Addr) (xc last : Nat) : Value := rdV xo q.all.length xc q.at_ last q.nm (ftV q.f).1 ((ftV q.f).2.1 : Nat) ((ftV q.f).2.2 : Nat)

set_option maxRecDepth 1000000 in
theorem ended_trail (xo : Option Addr) (len xc place : Nat) (last fa : Int) (nm fw : ByteArray) (w : World) (h : place < len) :
    Calls Tryz.prog 108 #[rdV xo len xc place last nm fw fa 0] w fun e w' => e = .returned (.agg #[.string nm, .int .i64 place, .int .i64 3]) ∧ Fr (fun _ => False) w w' := by
  unfold rdV
  go_enter Tryz.func108, Tryz.ntmps108
  go_wp2_with fail
  exact bodyPost_ret (v := .agg #[.string nm, .int .i64 place, .int .i64 3]) (by simp [results, Tryz.results108, go_sem]) rfl ⟨rfl, box2 w _ _⟩
set_option maxRecDepth 1000000 in
theorem ended_end (xo : Option Addr) (len xc place : Nat) (last fa : Int) (nm fw : ByteArray) (w : World) (h : len ≤ place) :
    Calls Tryz.prog 108 #[rdV xo len xc place last nm fw fa 0] w fun e w' => e = .returned (.agg #[.string fw, .int .i64 fa, .int .i64 0]) ∧ Fr (fun _ => False) w w' := by
  unfold rdV
  go_enter Tryz.func108, Tryz.ntmps108
  go_wp2_with fail
  exact bodyPost_ret (v := .agg #[.string fw, .int .i64 fa, .int .i64 0]) (by simp [results, Tryz.results108, go_sem]) rfl ⟨rfl, box2 w _ _⟩
set_option maxRecDepth 1000000 in
theorem ended_given (xo : Option Addr) (len xc : Nat) (place last fa fy : Int) (nm fw : ByteArray) (w : World) (h : fy ≠ 0) :
    Calls Tryz.prog 108 #[rdV xo len xc place last nm fw fa fy] w fun e w' => e = .returned (.agg #[.string fw, .int .i64 fa, .int .i64 fy]) ∧ Fr (fun _ => False) w w' := by
  have hy : (fy == 0) = false := by simp [h]
  clear h
  unfold rdV
  go_enter Tryz.func108, Tryz.ntmps108
  go_wp2_with fail
  exact bodyPost_ret (v := .agg #[.string fw, .int .i64 fa, .int .i64 fy]) (by simp [results, Tryz.results108, go_sem]) rfl ⟨rfl, box2 w _ _⟩
/-- The fault that Done tells. -/
def Q.ended (q : Q) : ByteArray × Nat × Nat := if q.f = none ∧ q.place < q.all.length then (q.nm, q.place, 3) else ftV q.f
theorem ended_any (q : Q) (xo : Option Addr) (xc last : Nat) (w : World) (hq : q.ok) :
    Calls Tryz.prog 108 #[q.ref xo xc last] w fun e w' => e = .returned (.agg #[.string q.ended.1, .int .i64 (q.ended.2.1 : Nat), .int .i64 (q.ended.2.2 : Nat)]) ∧ Fr (fun _ => False) w w' := by
  obtain ⟨nm, all, place, part, f⟩ := q
  cases f with
  | none =>
    by_cases h : place < all.length
    · rw [Q.ended, if_pos ⟨rfl, h⟩]
      exact ended_trail xo all.length xc place last 0 nm ⟨#[]⟩ w h
    · rw [Q.ended, if_neg (fun x => h x.2)]
      exact ended_end xo all.length xc place last 0 nm ⟨#[]⟩ w (by omega)
  | some y =>
    have h1 := (hq.f y rfl).2.1
    rw [Q.ended, if_neg (fun x => by cases x.1)]
    exact ended_given xo all.length xc y.2.1 last y.2.1 y.2.2 nm y.1 w (by omega)

/-- The ref's Read is the step. -/
theorem gread_any (q : Q) (p : Pt) (xo : Option Addr) (xc last : Nat) (w : World) (hq : q.ok) (hx : Src w (.slice xo q.all.length xc) q.all) (hlc : q.all.length ≤ xc) (hl : q.all.length ≤ 16777216) (hk : p.k ∈ kinds) (h9 : p.k = 9 → 0 ≤ p.n ∧ p.n ≤ 7) (hm : p.m < 9223372036854775808) (hla : q.f = none → last = q.part) :
    Calls Tryz.prog 127 #[q.ref xo xc last, .agg #[.int .i64 p.k, .int .u64 p.u, .string p.s, .int .i64 p.n, .int .i64 p.m]] w fun e w' => ∃ last' v, e = .returned (.tuple #[(q.step p).1.ref xo xc last', .int .u64 (q.step p).2.1, v]) ∧ Src w' v (q.step p).2.2 ∧ (∀ g o m c, v = .slice (some ⟨g, o, none⟩) m c → w.heap.size ≤ g) ∧ ((q.step p).1.f = none → last' = (q.step p).1.part) ∧ Fr (fun _ => False) w w' := by
  obtain ⟨k, u, s, n, m⟩ := p
  obtain ⟨nm, all, place, part, f⟩ := q
  simp only at hx hlc hl hk h9 hm hla
  have hpl := hq.place
  simp only at hpl
  have src0 : ∀ w', Src w' (.slice none 0 0) [] := fun _ => .inl ⟨rfl, rfl⟩
  have loc0 : ∀ g o m c, (Value.slice none 0 0) = .slice (some ⟨g, o, none⟩) m c → w.heap.size ≤ g := fun _ _ _ _ h => by cases h
  by_cases h10 : k = 10
  · subst h10
    refine (gread_10 xo all.length xc _ last _ _ nm (ftV f).1 s u n m w).mono ?_
    rintro e w' ⟨rfl, hf⟩
    refine ⟨last, .slice none 0 0, ?_, src0 _, loc0, hla, hf⟩
    cases f <;> rfl
  cases f with
  | some y =>
    have h1 := (hq.f y rfl).2.1
    have es : Q.step ⟨nm, all, place, part, some y⟩ ⟨k, u, s, n, m⟩ = (⟨nm, all, place, part, some y⟩, 0, []) := by simp [Q.step, h10]
    rw [es]
    refine (gread_given xo all.length xc y.2.1 last y.2.1 y.2.2 nm y.1 s k u n m w h10 (by omega)).mono ?_
    rintro e w' ⟨rfl, hf⟩
    exact ⟨last, .slice none 0 0, rfl, src0 _, loc0, (fun h => by cases h), hf⟩
  | none =>
    obtain rfl := hla rfl
    have fin : ∀ (q2 : Q) (v : Nat), q2.f = none → q2.part = place → ∀ (e : Ending) (w' : World), (e = .returned (.tuple #[q2.ref xo xc place, .int .u64 v, .slice none 0 0]) ∧ Fr (fun _ => False) w w') → ∃ last' v', e = .returned (.tuple #[q2.ref xo xc last', .int .u64 v, v']) ∧ Src w' v' [] ∧ (∀ g o m c, v' = .slice (some ⟨g, o, none⟩) m c → w.heap.size ≤ g) ∧ (q2.f = none → last' = q2.part) ∧ Fr (fun _ => False) w w' :=
      fun q2 v h1 h2 e w' ⟨he, hf⟩ => ⟨place, _, he, src0 _, loc0, fun _ => h2.symm, hf⟩
    have bad : ∀ (q2 : Q), q2.f ≠ none → ∀ (e : Ending) (w' : World), (e = .returned (.tuple #[q2.ref xo xc last, .int .u64 0, .slice none 0 0]) ∧ Fr (fun _ => False) w w') → ∃ last' v', e = .returned (.tuple #[q2.ref xo xc last', .int .u64 (0 : Nat), v']) ∧ Src w' v' [] ∧ (∀ g o m c, v' = .slice (some ⟨g, o, none⟩) m c → w.heap.size ≤ g) ∧ (q2.f = none → last' = q2.part) ∧ Fr (fun _ => False) w w' :=
      fun q2 h1 e w' ⟨he, hf⟩ => ⟨last, _, he, src0 _, loc0, fun h => absurd h h1, hf⟩
    by_cases hk9 : k = 9
    · subst hk9
      by_cases hn : n = 0
      · subst hn
        have es : Q.step ⟨nm, all, place, last, none⟩ ⟨9, u, s, 0, m⟩ = (⟨nm, all, place, last, none⟩, 0, []) := by simp [Q.step]
        rw [es]
        refine (gread_9z xo all.length xc place last 0 nm ⟨#[]⟩ s u m w).mono ?_
        rintro e w' ⟨rfl, hf⟩
        exact ⟨last, _, rfl, src0 _, loc0, fun _ => rfl, hf⟩
      · have es : Q.step ⟨nm, all, place, last, none⟩ ⟨9, u, s, n, m⟩ = (⟨nm, all, place, last, some (nm, last, n.toNat)⟩, 0, []) := by simp [Q.step, hn]
        rw [es]
        obtain ⟨n', rfl⟩ := Int.eq_ofNat_of_zero_le (h9 rfl).1
        rw [Int.toNat_natCast]
        exact (gread_9 xo all.length xc place last 0 nm ⟨#[]⟩ s u n' m w hn).mono (bad ⟨nm, all, place, last, some (nm, last, n')⟩ (by simp))
    simp only [kinds, List.mem_cons, List.not_mem_nil, or_false] at hk
    have hk' : k = 1 ∨ k = 2 ∨ k = 4 ∨ k = 8 ∨ k = 5 ∨ k = 6 ∨ k = 7 := by omega
    clear hk h9 h10 hk9
    rcases hk' with rfl | rfl | rfl | rfl | rfl | rfl | rfl
    · by_cases hs : all.length < 1 + place
      · have es : Q.step ⟨nm, all, place, last, none⟩ ⟨1, u, s, n, m⟩ = (⟨nm, all, place, last, some (nm, place, 1)⟩, 0, []) := by simp [Q.step, wid, Q.fail, hs]
        rw [es]
        exact (gread_1_short xo all.length xc place last 0 nm ⟨#[]⟩ s u n m w hpl hs).mono (bad ⟨nm, all, place, last, some (nm, place, 1)⟩ (by simp))
      · have es : Q.step ⟨nm, all, place, last, none⟩ ⟨1, u, s, n, m⟩ = (⟨nm, all, place + 1, place, none⟩, val ((all.drop place).take 1), []) := by simp [Q.step, wid, Q.num, hs]
        rw [es]
        exact (gread_1_ok xo all xc place last 0 nm ⟨#[]⟩ s u n m w hx hlc (by omega) (by omega)).mono (fin ⟨nm, all, place + 1, place, none⟩ _ rfl rfl)
    · by_cases hs : all.length < 2 + place
      · have es : Q.step ⟨nm, all, place, last, none⟩ ⟨2, u, s, n, m⟩ = (⟨nm, all, place, last, some (nm, place, 1)⟩, 0, []) := by simp [Q.step, wid, Q.fail, hs]
        rw [es]
        exact (gread_2_short xo all.length xc place last 0 nm ⟨#[]⟩ s u n m w hpl hs).mono (bad ⟨nm, all, place, last, some (nm, place, 1)⟩ (by simp))
      · have es : Q.step ⟨nm, all, place, last, none⟩ ⟨2, u, s, n, m⟩ = (⟨nm, all, place + 2, place, none⟩, val ((all.drop place).take 2), []) := by simp [Q.step, wid, Q.num, hs]
        rw [es]
        exact (gread_2_ok xo all xc place last 0 nm ⟨#[]⟩ s u n m w hx hlc (by omega) (by omega)).mono (fin ⟨nm, all, place + 2, place, none⟩ _ rfl rfl)
    · by_cases hs : all.length < 4 + place
      · have es : Q.step ⟨nm, all, place, last, none⟩ ⟨4, u, s, n, m⟩ = (⟨nm, all, place, last, some (nm, place, 1)⟩, 0, []) := by simp [Q.step, wid, Q.fail, hs]
        rw [es]
        exact (gread_4_short xo all.length xc place last 0 nm ⟨#[]⟩ s u n m w hpl hs).mono (bad ⟨nm, all, place, last, some (nm, place, 1)⟩ (by simp))
      · have es : Q.step ⟨nm, all, place, last, none⟩ ⟨4, u, s, n, m⟩ = (⟨nm, all, place + 4, place, none⟩, val ((all.drop place).take 4), []) := by simp [Q.step, wid, Q.num, hs]
        rw [es]
        exact (gread_4_ok xo all xc place last 0 nm ⟨#[]⟩ s u n m w hx hlc (by omega) (by omega)).mono (fin ⟨nm, all, place + 4, place, none⟩ _ rfl rfl)
    · by_cases hs : all.length < 8 + place
      · have es : Q.step ⟨nm, all, place, last, none⟩ ⟨8, u, s, n, m⟩ = (⟨nm, all, place, last, some (nm, place, 1)⟩, 0, []) := by simp [Q.step, wid, Q.fail, hs]
        rw [es]
        exact (gread_8_short xo all.length xc place last 0 nm ⟨#[]⟩ s u n m w hpl hs).mono (bad ⟨nm, all, place, last, some (nm, place, 1)⟩ (by simp))
      · have es : Q.step ⟨nm, all, place, last, none⟩ ⟨8, u, s, n, m⟩ = (⟨nm, all, place + 8, place, none⟩, val ((all.drop place).take 8), []) := by simp [Q.step, wid, Q.num, hs]
        rw [es]
        exact (gread_8_ok xo all xc place last 0 nm ⟨#[]⟩ s u n m w hx hlc (by omega) (by omega)).mono (fin ⟨nm, all, place + 8, place, none⟩ _ rfl rfl)
    · by_cases hs : all.length < 4 + place
      · have es : Q.step ⟨nm, all, place, last, none⟩ ⟨5, u, s, n, m⟩ = (⟨nm, all, place, last, some (nm, place, 1)⟩, 0, []) := by simp [Q.step, wid, Q.fail, hs]
        rw [es]
        exact (gread_5_short xo all.length xc place last 0 nm ⟨#[]⟩ s u n m w hpl hs).mono (bad ⟨nm, all, place, last, some (nm, place, 1)⟩ (by simp))
      cases hqb : quantB (val ((all.drop place).take 4)) with
      | false =>
        have es : Q.step ⟨nm, all, place, last, none⟩ ⟨5, u, s, n, m⟩ = (⟨nm, all, place, last, some (nm, place, 4)⟩, 0, []) := by simp [Q.step, wid, Q.fail, Q.num, hs, hqb]
        rw [es]
        exact (gread_5_bad xo all xc place last 0 nm ⟨#[]⟩ s u n m w hx hlc (by omega) (by omega) hqb).mono (bad ⟨nm, all, place, last, some (nm, place, 4)⟩ (by simp))
      | true =>
        have es : Q.step ⟨nm, all, place, last, none⟩ ⟨5, u, s, n, m⟩ = (⟨nm, all, place + 4, place, none⟩, val ((all.drop place).take 4), []) := by simp [Q.step, wid, Q.num, hs, hqb]
        rw [es]
        exact (gread_5_ok xo all xc place last 0 nm ⟨#[]⟩ s u n m w hx hlc (by omega) (by omega) hqb).mono (fin ⟨nm, all, place + 4, place, none⟩ _ rfl rfl)
    · by_cases hs : all.length < 4 + place
      · have es : Q.step ⟨nm, all, place, last, none⟩ ⟨6, u, s, n, m⟩ = (⟨nm, all, place, last, some (nm, place, 1)⟩, 0, []) := by simp [Q.step, wid, Q.fail, hs]
        rw [es]
        exact (gread_6_short xo all.length xc place last 0 nm ⟨#[]⟩ s u n m w hpl hs).mono (bad ⟨nm, all, place, last, some (nm, place, 1)⟩ (by simp))
      by_cases hv : m < (val ((all.drop place).take 4) : Int)
      · have es : Q.step ⟨nm, all, place, last, none⟩ ⟨6, u, s, n, m⟩ = (⟨nm, all, place, last, some (nm, place, 2)⟩, 0, []) := by simp [Q.step, wid, Q.fail, Q.num, hs, hv]
        rw [es]
        exact (gread_6_long xo all xc place last 0 nm ⟨#[]⟩ s u n m w hx hlc (by omega) (by omega) hm hv).mono (bad ⟨nm, all, place, last, some (nm, place, 2)⟩ (by simp))
      by_cases hxl : all.length < val ((all.drop place).take 4) + (place + 4)
      · have es : Q.step ⟨nm, all, place, last, none⟩ ⟨6, u, s, n, m⟩ = (⟨nm, all, place, last, some (nm, place, 1)⟩, 0, []) := by simp [Q.step, wid, Q.fail, Q.num, hs, hv, hxl]
        rw [es]
        exact (gread_6_end xo all xc place last 0 nm ⟨#[]⟩ s u n m w hx hlc (by omega) (by omega) hm (by omega) hxl).mono (bad ⟨nm, all, place, last, some (nm, place, 1)⟩ (by simp))
      · have es : Q.step ⟨nm, all, place, last, none⟩ ⟨6, u, s, n, m⟩ = (⟨nm, all, place + 4 + val ((all.drop place).take 4), place, none⟩, 0, (all.drop (place + 4)).take (val ((all.drop place).take 4))) := by simp [Q.step, wid, Q.num, hs, hv, hxl]
        rw [es]
        refine (gread_6_ok xo all xc place last 0 nm ⟨#[]⟩ s u n m w hx hlc hl (by omega) hm (by omega) (by omega)).mono ?_
        rintro e w' ⟨v, rfl, hsv, hlo, hf⟩
        exact ⟨place, v, rfl, hsv, hlo, fun _ => rfl, hf⟩
    · by_cases hs : all.length < 4 + place
      · have es : Q.step ⟨nm, all, place, last, none⟩ ⟨7, u, s, n, m⟩ = (⟨nm, all, place, last, some (nm, place, 1)⟩, 0, []) := by simp [Q.step, wid, Q.fail, hs]
        rw [es]
        exact (gread_7_short xo all.length xc place last 0 nm ⟨#[]⟩ s u n m w hpl hs).mono (bad ⟨nm, all, place, last, some (nm, place, 1)⟩ (by simp))
      by_cases hv : m < (val ((all.drop place).take 4) : Int)
      · have es : Q.step ⟨nm, all, place, last, none⟩ ⟨7, u, s, n, m⟩ = (⟨nm, all, place, last, some (nm, place, 2)⟩, 0, []) := by simp [Q.step, wid, Q.fail, Q.num, hs, hv]
        rw [es]
        exact (gread_7_long xo all xc place last 0 nm ⟨#[]⟩ s u n m w hx hlc (by omega) (by omega) hm hv).mono (bad ⟨nm, all, place, last, some (nm, place, 2)⟩ (by simp))
      · have es : Q.step ⟨nm, all, place, last, none⟩ ⟨7, u, s, n, m⟩ = (⟨nm, all, place + 4, place, none⟩, val ((all.drop place).take 4), []) := by simp [Q.step, wid, Q.num, hs, hv]
        rw [es]
        exact (gread_7_ok xo all xc place last 0 nm ⟨#[]⟩ s u n m w hx hlc (by omega) (by omega) hm (by omega)).mono (fin ⟨nm, all, place + 4, place, none⟩ _ rfl rfl)
end Go.Proofs.YtcpbmphknonflaaGreatDoor

namespace Go.Proofs.YtcpbmphknonflaaGreatDoor
open Go.RowKit

/-- The error that tells a fault. -/
def ErrV (w : World) (v : Value) (x : ByteArray × Nat × Nat) (E : Nat → Addr) : Prop :=
  (x.2.2 = 0 ∧ v = .nilIface) ∨ (1 ≤ x.2.2 ∧ x.2.2 ≤ 7 ∧ ∃ fb, v = .iface 85 (.pointer (some ⟨fb, 0, none⟩)) ∧ w.heap[fb]? = some (faultObj x.1 x.2.1 (E x.2.2)))
theorem ErrV.fr {w w' : World} {v : Value} {x : ByteArray × Nat × Nat} {E : Nat → Addr} (h : ErrV w v x E) (hf : Fr (fun _ => False) w w') : ErrV w' v x E := by
  rcases h with h | ⟨h1, h7, fb, rfl, hb⟩
  · exact .inl h
  · have hlt : fb < w.heap.size := by
      rcases Nat.lt_or_ge fb w.heap.size with hx | hx
      · exact hx
      · rw [Array.getElem?_eq_none hx] at hb; cases hb
    exact .inr ⟨h1, h7, fb, rfl, (hf.block fb hlt (fun h => h)).trans hb⟩
theorem told_any (w : World) (v : Value) (x : ByteArray × Nat × Nat) (E : Nat → Addr) (h : ErrV w v x E) (hg : G7 w E) :
    Calls Tryz.prog 14 #[v, .agg #[.string x.1, .int .i64 (x.2.1 : Nat), .int .i64 (x.2.2 : Nat)]] w fun e w' => e = .returned (.bool true) ∧ Fr (fun _ => False) w w' := by
  rcases h with ⟨h0, rfl⟩ | ⟨h1, h7, fb, rfl, hb⟩
  · rw [h0]; exact told_nil x.1 x.2.1 w
  · exact told_fault x.2.2 fb x.2.1 x.1 E w hg h1 h7 hb

set_option maxRecDepth 100000 in
theorem rDone_given (b : Nat) (F : Nat → Prop) (s : Rst) (what : ByteArray) (place : Nat) (ea : Addr) (w : World) (h : R w b F s) (hn : s.f = some (what, place, ea)) :
    Calls Tryz.prog 88 #[.pointer (some ⟨b, 0, none⟩)] w fun e w' => ∃ fa, e = .returned (.iface 85 (.pointer (some ⟨fa, 0, none⟩))) ∧ w'.heap[fa]? = some (faultObj what place ea) ∧ Fr (fun _ => False) w w' := by
  rcases h.st with ⟨h1, _⟩ | ⟨what', place', ea', fb, h1, h2, h3, h4, h5, h6, h7⟩
  · rw [hn] at h1; cases h1
  rw [hn] at h1
  obtain ⟨rfl, rfl, rfl⟩ : what = what' ∧ place = place' ∧ ea = ea' := by simpa using h1
  have H7 := hide h7
  clear h1 h2 h3 h5 h6 h7 h hn
  go_enter Tryz.func88, Tryz.ntmps88
  go_wp2_with fail
  go_quiet (fail)
  go_wp2_with fail
  refine (told_some b fb place what ea (w.drewN nq) (by simpa using h4) (unhide H7)).mono ?_
  rintro e w' ⟨rfl, rfl⟩
  go_wp2_with fail
  go_ret
  exact ⟨_, rfl, heap_alloc_new _ _, ((Fr.refl _ _).drewN _).alloc _⟩

theorem done_any (q : Q) (b : Nat) (F : Nat → Prop) (E : Nat → Addr) (w : World) (h : R w b F (q.rst E)) (hq : q.ok) (hg : Gl w E) :
    Calls Tryz.prog 88 #[.pointer (some ⟨b, 0, none⟩)] w fun e w' => ∃ v, e = .returned v ∧ ErrV w' v q.ended E ∧ Fr (fun _ => False) w w' := by
  obtain ⟨nm, all, place, part, f⟩ := q
  cases f with
  | none =>
    by_cases hp : place < all.length
    · rw [Q.ended, if_pos ⟨rfl, hp⟩]
      refine (rDone_trail b F _ E w hg h rfl hp).mono ?_
      rintro e w' ⟨fb, rfl, hb, hf, _⟩
      exact ⟨_, rfl, .inr ⟨(by decide : 1 ≤ 3), (by decide : 3 ≤ 7), fb, rfl, hb⟩, hf⟩
    · rw [Q.ended, if_neg (fun x => hp x.2)]
      have hple : place = all.length := Nat.le_antisymm hq.place (by omega)
      refine (rDone_end b F _ w h rfl hple).mono ?_
      rintro e w' ⟨rfl, hf⟩
      exact ⟨_, rfl, .inl ⟨rfl, rfl⟩, hf⟩
  | some y =>
    rw [Q.ended, if_neg (fun x => by cases x.1)]
    refine (rDone_given b F _ y.1 y.2.1 (E y.2.2) w h rfl).mono ?_
    rintro e w' ⟨fb, rfl, hb, hf⟩
    exact ⟨_, rfl, .inr ⟨(hq.f y rfl).2.1, (hq.f y rfl).2.2, fb, rfl, hb⟩, hf⟩

/-- The seven cells of the ref's reader, and nothing old has turned. -/
abbrev TS (w0 : World) (g : Nat) (a0 a1 a2 a3 a4 a5 a6 : Value) (w : World) : Prop :=
  w.cell? ⟨g, 0, none⟩ = some a0 ∧ w.cell? ⟨g, 1, none⟩ = some a1 ∧ w.cell? ⟨g, 2, none⟩ = some a2 ∧ w.cell? ⟨g, 3, none⟩ = some a3 ∧ w.cell? ⟨g, 4, none⟩ = some a4 ∧ w.cell? ⟨g, 5, none⟩ = some a5 ∧ w.cell? ⟨g, 6, none⟩ = some a6 ∧ Fr (fun _ => False) w0 w
theorem TS.next {w0 w w' : World} {g : Nat} {a0 a1 a2 a3 a4 a5 a6 : Value} (h : TS w0 g a0 a1 a2 a3 a4 a5 a6 w) (hf : Fr (fun _ => False) w w') : TS w0 g a0 a1 a2 a3 a4 a5 a6 w' := by
  obtain ⟨h0, h1, h2, h3, h4, h5, h6, hF⟩ := h
  have key : ∀ {i : Nat} {v : Value}, w.cell? ⟨g, i, none⟩ = some v → w'.cell? ⟨g, i, none⟩ = some v := fun h => (hf.cell (lt_of_cell h) (fun h => h)).trans h
  exact ⟨key h0, key h1, key h2, key h3, key h4, key h5, key h6, hF.trans hf (fun _ _ h => h)⟩
theorem same_S {w0 w : World} {g : Nat} {a0 a1 a2 a3 a4 a5 a6 x y : Value} {a b : List Nat} (hS : TS w0 g a0 a1 a2 a3 a4 a5 a6 w) (hx : Src w0 x a) (hy : Src w0 y b) (hn : norm a = norm b) (ha : a.length ≤ 140737488355328) :
    Calls Tryz.prog 13 #[x, y] w fun e w' => e = .returned (.bool true) ∧ TS w0 g a0 a1 a2 a3 a4 a5 a6 w' := by
  refine (same_any x y a b w (hx.fr hS.2.2.2.2.2.2.2 (fun _ _ _ _ _ h => h)) (hy.fr hS.2.2.2.2.2.2.2 (fun _ _ _ _ _ h => h)) ha).mono ?_
  rintro e w' ⟨rfl, hd⟩
  exact ⟨by simp [sameB, hn], TS.next hS (Fr.of_drewN hd)⟩
theorem done_S {w0 w : World} {g b : Nat} {F : Nat → Prop} {E : Nat → Addr} {a0 a1 a2 a3 a4 a5 a6 : Value} {q : Q} (hS : TS w0 g a0 a1 a2 a3 a4 a5 a6 w) (h : R w0 b F (q.rst E)) (hq : q.ok) (hg : G7 w0 E) :
    Calls Tryz.prog 88 #[.pointer (some ⟨b, 0, none⟩)] w fun e w' => ∃ v, e = .returned v ∧ ErrV w' v q.ended E ∧ Fr (fun _ => False) w w' ∧ TS w0 g a0 a1 a2 a3 a4 a5 a6 w' := by
  refine (done_any q b F E w (h.frame hS.2.2.2.2.2.2.2 (fun _ _ h => h)) hq (hg.gl.fr0 hS.2.2.2.2.2.2.2)).mono ?_
  rintro e w' ⟨v, rfl, hE, hf⟩
  exact ⟨v, rfl, hE, hf, TS.next hS hf⟩
theorem ended_S {w0 w : World} {g xc last : Nat} {xo : Option Addr} {a0 a1 a2 a3 a4 a5 a6 : Value} {q : Q} (hS : TS w0 g a0 a1 a2 a3 a4 a5 a6 w) (hq : q.ok) :
    Calls Tryz.prog 108 #[.agg #[.slice xo q.all.length xc, .int .i64 q.at_, .int .i64 last, .string q.nm, .string (ftV q.f).1, .int .i64 ((ftV q.f).2.1 : Nat), .int .i64 ((ftV q.f).2.2 : Nat)]] w fun e w' => e = .returned (.agg #[.string q.ended.1, .int .i64 (q.ended.2.1 : Nat), .int .i64 (q.ended.2.2 : Nat)]) ∧ Fr (fun _ => False) w w' ∧ TS w0 g a0 a1 a2 a3 a4 a5 a6 w' := by
  refine (ended_any q xo xc last w hq).mono ?_
  rintro e w' ⟨rfl, hf⟩
  exact ⟨rfl, hf, TS.next hS hf⟩
theorem told_S {w0 w : World} {g : Nat} {E : Nat → Addr} {v a0 a1 a2 a3 a4 a5 a6 : Value} {x : ByteArray × Nat × Nat} (hS : TS w0 g a0 a1 a2 a3 a4 a5 a6 w) (h : ErrV w v x E) (hg : G7 w0 E) :
    Calls Tryz.prog 14 #[v, .agg #[.string x.1, .int .i64 (x.2.1 : Nat), .int .i64 (x.2.2 : Nat)]] w fun e w' => e = .returned (.bool true) ∧ Fr (fun _ => False) w w' ∧ TS w0 g a0 a1 a2 a3 a4 a5 a6 w' := by
  refine (told_any w v x E h (hg.fr hS.2.2.2.2.2.2.2 (fun _ h => h.elim))).mono ?_
  rintro e w' ⟨rfl, hf⟩
  exact ⟨rfl, hf, TS.next hS hf⟩
end Go.Proofs.YtcpbmphknonflaaGreatDoor

namespace Go.Proofs.YtcpbmphknonflaaGreatDoor
open Go.RowKit

/-- A proof: its hashes. -/
def CS.pProof (c : CS) (ps : List (List Nat)) : CS × List (List Nat) := match c with
  | .wr s => (loopW (fun c v => c.pHash n_hash v) ((CS.wr s).pInt n_hashes (4096 : Nat) (lrs (4096 : Nat) []) ps.length).1 (ps.take (min ps.length 4096)), ps)
  | .rd q => loopR (fun c v => c.pHash n_hash v) [] (min ((q.named n_hashes).go 7 (4096 : Nat)).2.1 4096) ((CS.rd q).pInt n_hashes (4096 : Nat) (lrs (4096 : Nat) []) 0).1
set_option maxRecDepth 100000 in
theorem proof_w (s : Wq) (ps : List (List Nat)) (xo : Option Addr) (xc : Nat) (cb b g o : Nat) (F : Nat → Prop) (E : Nat → Addr) (w : World) (h : Cd w cb b F (.wr s) E) (hp : w.cell? ⟨g, o, none⟩ = some (.slice xo ps.length xc)) (hL : Loc w cb F g o) (hps : PcV w xo xc ps F) (hn : ps.length < 9223372036854775808) (hroom : (CS.wr s).room 5000) :
    Calls Tryz.prog 115 #[.pointer (some ⟨cb, 0, none⟩), .pointer (some ⟨g, o, none⟩)] w fun e w' => e = .returned (.tuple #[]) ∧ ∃ F', Cd w' cb b F' ((CS.wr s).pProof ps).1 E ∧ Stp w w' F F' (fun _ _ => False) := by
  have hmf := mf
  have hlp := hL.lt
  have hbx := box1 w (.cells #[.pointer (some ⟨cb, 0, none⟩)] 139)
  have hng : ¬ F w.heap.size := fun hx => by have := h.lt _ hx; omega
  have HH : Hid (∀ wx, Fr (fun _ => False) (w.alloc (.cells #[.pointer (some ⟨cb, 0, none⟩)] 139)) wx → Calls Tryz.prog 144 #[.pointer (some ⟨cb, 0, none⟩), .string n_hashes, .pointer (some ⟨g, o, none⟩), .int .i64 4096, .func (.func 145) #[] #[.pointer (some ⟨w.heap.size, 0, none⟩)], .slice none 0 0] wx fun e w' => e = .returned (.tuple #[]) ∧ (∃ F', Cd w' cb b F' ((CS.wr s).pProof ps).1 E ∧ Stp w w' F F' (fun _ _ => False)) ∧ w'.cell? ⟨w.heap.size, 0, none⟩ = some (.pointer (some ⟨cb, 0, none⟩))) := by
    intro wx hfx
    have hf := hbx.trans hfx (fun _ _ h => h)
    have hcx : wx.cell? ⟨w.heap.size, 0, none⟩ = some (.pointer (some ⟨cb, 0, none⟩)) := (hfx.cell (p := ⟨w.heap.size, 0, none⟩) (by simp) (fun h => h)).trans (by simp)
    refine (list_byt_w s n_hashes 4096 cb b g o w.heap.size F E xo xc ps wx (h.fr0 hf) hn (by decide) ((hf.cell (p := ⟨g, o, none⟩) hlp (fun h => h)).trans hp) (hL.fr0 hf) (hps.stp (Stp.of_fr hf F (fun _ _ => False)) (fun _ _ _ h => h)) hcx hng hroom).mono ?_
    rintro e w1 ⟨rfl, F1, hC1, hs1⟩
    exact ⟨rfl, ⟨F1, hC1, (Stp.of_fr hf F (fun _ _ => False)).trans hs1 (fun _ _ _ h => h)⟩, (hs1.oth w.heap.size 0 (lt_of_cell hcx) hng (fun h => h)).trans hcx⟩
  have hS0 : Fr (fun _ => False) (w.alloc (.cells #[.pointer (some ⟨cb, 0, none⟩)] 139)) (w.alloc (.cells #[.pointer (some ⟨cb, 0, none⟩)] 139)) := Fr.refl _ _
  have hcb : (w.alloc (.cells #[.pointer (some ⟨cb, 0, none⟩)] 139)).cell? ⟨w.heap.size, 0, none⟩ = some (.pointer (some ⟨cb, 0, none⟩)) := by simp
  clear h hL hps hbx hng
  go_enter Tryz.func115, Tryz.ntmps115
  go_wp2_with fail
  go_region_held3 (fun w' => w'.cell? ⟨w.heap.size, 0, none⟩ = some (.pointer (some ⟨cb, 0, none⟩))) (first | assumption | (simp only [World.cell?_drew, World.cell?_drewN]; assumption)) (first
    | (go_at_call 144; refine ((unhide HH) _ (by first | assumption | exact Fr.drew (by assumption))).mono ?_; rintro e w1 ⟨rfl, h1, hc1⟩))
  have H1 := hide h1
  clear h1
  go_wp2_with fail
  go_end0
  exact ⟨rfl, unhide H1⟩
set_option maxRecDepth 100000 in
theorem proof_r (q : Q) (cb b g o : Nat) (F : Nat → Prop) (E : Nat → Addr) (w : World) (h : Cd w cb b F (.rd q) E) (hp : w.cell? ⟨g, o, none⟩ = some (.slice none 0 0)) (hL : Loc w cb F g o) :
    Calls Tryz.prog 115 #[.pointer (some ⟨cb, 0, none⟩), .pointer (some ⟨g, o, none⟩)] w fun e w' => e = .returned (.tuple #[]) ∧ ∃ F', Cd w' cb b F' ((CS.rd q).pProof []).1 E ∧ ∃ x, w'.cell? ⟨g, o, none⟩ = some x ∧ OwP w' w.heap.size x ((CS.rd q).pProof []).2 F' ∧ Stp w w' F F' (fun k j => k = g ∧ j = o) := by
  have hmf := mf
  have hlp := hL.lt
  have hbx := box1 w (.cells #[.pointer (some ⟨cb, 0, none⟩)] 139)
  have hng : ¬ F w.heap.size := fun hx => by have := h.lt _ hx; omega
  have HH : Hid (∀ wx, Fr (fun _ => False) (w.alloc (.cells #[.pointer (some ⟨cb, 0, none⟩)] 139)) wx → Calls Tryz.prog 144 #[.pointer (some ⟨cb, 0, none⟩), .string n_hashes, .pointer (some ⟨g, o, none⟩), .int .i64 4096, .func (.func 145) #[] #[.pointer (some ⟨w.heap.size, 0, none⟩)], .slice none 0 0] wx fun e w' => e = .returned (.tuple #[]) ∧ (∃ F', Cd w' cb b F' ((CS.rd q).pProof []).1 E ∧ ∃ x, w'.cell? ⟨g, o, none⟩ = some x ∧ OwP w' w.heap.size x ((CS.rd q).pProof []).2 F' ∧ Stp w w' F F' (fun k j => k = g ∧ j = o)) ∧ w'.cell? ⟨w.heap.size, 0, none⟩ = some (.pointer (some ⟨cb, 0, none⟩))) := by
    intro wx hfx
    have hf := hbx.trans hfx (fun _ _ h => h)
    have hcx : wx.cell? ⟨w.heap.size, 0, none⟩ = some (.pointer (some ⟨cb, 0, none⟩)) := (hfx.cell (p := ⟨w.heap.size, 0, none⟩) (by simp) (fun h => h)).trans (by simp)
    refine (list_byt_r q n_hashes 4096 cb b g o w.heap.size F E wx (h.fr0 hf) (by decide) ((hf.cell (p := ⟨g, o, none⟩) hlp (fun h => h)).trans hp) (hL.fr0 hf) hcx hng (by omega)).mono ?_
    rintro e w1 ⟨rfl, F1, hC1, x, hx, hO, hs1⟩
    exact ⟨rfl, ⟨F1, hC1, x, hx, hO.base hf.size, (Stp.of_fr hf F _).trans hs1 (fun _ _ _ h => h)⟩, (hs1.oth w.heap.size 0 (lt_of_cell hcx) hng (fun h => by omega)).trans hcx⟩
  have hS0 : Fr (fun _ => False) (w.alloc (.cells #[.pointer (some ⟨cb, 0, none⟩)] 139)) (w.alloc (.cells #[.pointer (some ⟨cb, 0, none⟩)] 139)) := Fr.refl _ _
  have hcb : (w.alloc (.cells #[.pointer (some ⟨cb, 0, none⟩)] 139)).cell? ⟨w.heap.size, 0, none⟩ = some (.pointer (some ⟨cb, 0, none⟩)) := by simp
  clear h hL hbx hng
  go_enter Tryz.func115, Tryz.ntmps115
  go_wp2_with fail
  go_region_held3 (fun w' => w'.cell? ⟨w.heap.size, 0, none⟩ = some (.pointer (some ⟨cb, 0, none⟩))) (first | assumption | (simp only [World.cell?_drew, World.cell?_drewN]; assumption)) (first
    | (go_at_call 144; refine ((unhide HH) _ (by first | assumption | exact Fr.drew (by assumption))).mono ?_; rintro e w1 ⟨rfl, h1, hc1⟩))
  have H1 := hide h1
  clear h1
  go_wp2_with fail
  go_end0
  exact ⟨rfl, unhide H1⟩
theorem CS.pForm_room {c : CS} {n : Nat} (h : c.room (n + 1)) (k : Nat) : (c.pForm k).room n := CS.pU8_room h _ _ _
set_option maxRecDepth 100000 in
theorem whole_Head (c : CS) (size : Nat) (root : List Nat) (x : Value) (cb b g : Nat) (F : Nat → Prop) (E : Nat → Addr) (w : World) (h : Cd w cb b F c E) (hp0 : w.cell? ⟨g, 0, none⟩ = some (.int .u32 (size : Nat))) (hp1 : w.cell? ⟨g, 1, none⟩ = some x) (hB : BVg w x root F g) (hL : ∀ i, Loc w cb F g i) (hsz : size < 4294967296) (hroom : c.room 3) :
    Calls Tryz.prog 74 #[.pointer (some ⟨cb, 0, none⟩), .iface 178 (.pointer (some ⟨g, 0, none⟩))] w fun e w' => e = .returned (.tuple #[]) ∧ ∃ F', Cd w' cb b F' ((c.pForm 4).pHead (size, root)).1 E ∧ w'.cell? ⟨g, 0, none⟩ = some (.int .u32 (((c.pForm 4).pHead (size, root)).2.1 : Nat)) ∧ ∃ x', w'.cell? ⟨g, 1, none⟩ = some x' ∧ BO w w' c x' ((c.pForm 4).pHead (size, root)).2.2 F' g ∧ Stp w w' F F' (cellsAt g 0 2) := by
  have t0 := Tryz.wh_Head
  have t1 := Tryz.wm_Head_Request
  have t2 := Tryz.wm_Head_Answer
  have t3 := Tryz.wm_Head_Event
  have HF := hide (form_any c 4 cb b F E w h (by decide) (by simp only [CS.room] at *; omega))
  have hgl := (hL 0).lt
  have hgF := (hL 0).nF
  have H := hide (And.intro hB hL)
  clear h hB hL
  go_enter Tryz.func74, Tryz.ntmps74
  go_wp2_with fail
  refine (unhide HF).mono ?_
  rintro e w1 ⟨rfl, F1, hC1, hs1⟩
  have HH := hide (head_any (c.pForm 4) size root x cb b g 0 F1 E w1 hC1 ((hs1.oth g 0 hgl hgF (fun h => h)).trans hp0) ((hs1.oth g 1 hgl hgF (fun h => h)).trans hp1) ((unhide H).1.stp hs1 (fun _ _ _ h => h.elim)) (fun i => ((unhide H).2 i).stp hs1) hsz (CS.pForm_room hroom 4))
  have H1 := hide hs1
  clear hC1 hs1
  go_wp2_with fail
  refine (unhide HH).mono ?_
  rintro e w2 ⟨rfl, F2, hC2, hc2, x2, hx2, ho2, hs2⟩
  have H2 := hide (And.intro hC2 (And.intro hc2 (And.intro hx2 (And.intro (ho2.mode (w0 := w) (c := c) (unhide H1).size (by rintro q rfl; exact ⟨_, rfl⟩)) (((unhide H1).mono (fun _ _ _ h => h.elim)).trans hs2 (fun _ _ _ h => h))))))
  clear hC2 hc2 hx2 ho2 hs2
  go_wp2_with fail
  go_end0
  obtain ⟨a1, a2, a3, a4, a5⟩ := unhide H2
  exact ⟨rfl, F2, a1, a2, x2, a3, a4, a5⟩
set_option maxRecDepth 100000 in
theorem whole_Signed (c : CS) (size key : Nat) (root sig : List Nat) (x y : Value) (cb b g : Nat) (F : Nat → Prop) (E : Nat → Addr) (w : World) (h : Cd w cb b F c E) (hp0 : w.cell? ⟨g, 0, none⟩ = some (.int .u32 (size : Nat))) (hp1 : w.cell? ⟨g, 1, none⟩ = some x) (hp2 : w.cell? ⟨g, 2, none⟩ = some (.int .u32 (key : Nat))) (hp3 : w.cell? ⟨g, 3, none⟩ = some y) (hB : BVg w x root F g) (hB2 : BVg w y sig F g) (hL : ∀ i, Loc w cb F g i) (hsz : size < 4294967296) (hkey : key < 4294967296) (hroom : c.room 5) :
    Calls Tryz.prog 74 #[.pointer (some ⟨cb, 0, none⟩), .iface 177 (.pointer (some ⟨g, 0, none⟩))] w fun e w' => e = .returned (.tuple #[]) ∧ ∃ F', Cd w' cb b F' ((c.pForm 5).pSigned ((size, root), key, sig)).1 E ∧ w'.cell? ⟨g, 0, none⟩ = some (.int .u32 (((c.pForm 5).pSigned ((size, root), key, sig)).2.1.1 : Nat)) ∧ w'.cell? ⟨g, 2, none⟩ = some (.int .u32 (((c.pForm 5).pSigned ((size, root), key, sig)).2.2.1 : Nat)) ∧ ∃ x' y', w'.cell? ⟨g, 1, none⟩ = some x' ∧ w'.cell? ⟨g, 3, none⟩ = some y' ∧ BO w w' c x' ((c.pForm 5).pSigned ((size, root), key, sig)).2.1.2 F' g ∧ BO w w' c y' ((c.pForm 5).pSigned ((size, root), key, sig)).2.2.2 F' g ∧ Stp w w' F F' (cellsAt g 0 4) := by
  have t0 := Tryz.wh_Signed
  have t1 := Tryz.wm_Signed_Request
  have t2 := Tryz.wm_Signed_Answer
  have t3 := Tryz.wm_Signed_Event
  have t4 := Tryz.wm_Signed_Head
  have HF := hide (form_any c 5 cb b F E w h (by decide) (by simp only [CS.room] at *; omega))
  have hgl := (hL 0).lt
  have hgF := (hL 0).nF
  have H := hide (And.intro hB (And.intro hB2 hL))
  clear h hB hB2 hL
  go_enter Tryz.func74, Tryz.ntmps74
  go_wp2_with fail
  refine (unhide HF).mono ?_
  rintro e w1 ⟨rfl, F1, hC1, hs1⟩
  have HH := hide (signed_any (c.pForm 5) size key root sig x y cb b g 0 F1 E w1 hC1 ((hs1.oth g 0 hgl hgF (fun h => h)).trans hp0) ((hs1.oth g 1 hgl hgF (fun h => h)).trans hp1) ((hs1.oth g 2 hgl hgF (fun h => h)).trans hp2) ((hs1.oth g 3 hgl hgF (fun h => h)).trans hp3) ((unhide H).1.stp hs1 (fun _ _ _ h => h.elim)) ((unhide H).2.1.stp hs1 (fun _ _ _ h => h.elim)) (fun i => ((unhide H).2.2 i).stp hs1) hsz hkey (CS.pForm_room hroom 5))
  have H1 := hide hs1
  clear hC1 hs1
  go_wp2_with fail
  refine (unhide HH).mono ?_
  rintro e w2 ⟨rfl, F2, hC2, hc2, hd2, x2, y2, hx2, hy2, ho2, hq2, hs2⟩
  have hm : ∀ q, c = .rd q → ∃ q', (c.pForm 5) = .rd q' := by rintro q rfl; exact ⟨_, rfl⟩
  have H2 := hide (And.intro hC2 (And.intro hc2 (And.intro hd2 (And.intro hx2 (And.intro hy2 (And.intro (ho2.mode (w0 := w) (c := c) (unhide H1).size hm) (And.intro (hq2.mode (w0 := w) (c := c) (unhide H1).size hm) (((unhide H1).mono (fun _ _ _ h => h.elim)).trans hs2 (fun _ _ _ h => h)))))))))
  clear hC2 hc2 hd2 hx2 hy2 ho2 hq2 hs2 hm
  go_wp2_with fail
  go_end0
  obtain ⟨a1, a2, a3, a4, a5, a6, a7, a8⟩ := unhide H2
  exact ⟨rfl, F2, a1, a2, a3, x2, y2, a4, a5, a6, a7, a8⟩
set_option maxRecDepth 100000 in
theorem whole_Proof_w (s : Wq) (ps : List (List Nat)) (xo : Option Addr) (xc : Nat) (cb b g : Nat) (F : Nat → Prop) (E : Nat → Addr) (w : World) (h : Cd w cb b F (.wr s) E) (hp : w.cell? ⟨g, 0, none⟩ = some (.slice xo ps.length xc)) (hL : Loc w cb F g 0) (hps : PcV w xo xc ps F) (hn : ps.length < 9223372036854775808) (hroom : (CS.wr s).room 5001) :
    Calls Tryz.prog 74 #[.pointer (some ⟨cb, 0, none⟩), .iface 174 (.pointer (some ⟨g, 0, none⟩))] w fun e w' => e = .returned (.tuple #[]) ∧ ∃ F', Cd w' cb b F' (((CS.wr s).pForm 6).pProof ps).1 E ∧ Stp w w' F F' (fun _ _ => False) := by
  have t0 := Tryz.wh_Proof
  have t1 := Tryz.wm_Proof_Request
  have t2 := Tryz.wm_Proof_Answer
  have t3 := Tryz.wm_Proof_Event
  have t4 := Tryz.wm_Proof_Head
  have t5 := Tryz.wm_Proof_Signed
  have HF := hide (form_any (.wr s) 6 cb b F E w h (by decide) (by simp only [CS.room] at *; omega))
  have hgl := hL.lt
  have hgF := hL.nF
  have H := hide (And.intro hps hL)
  clear h hps hL
  go_enter Tryz.func74, Tryz.ntmps74
  go_wp2_with fail
  refine (unhide HF).mono ?_
  rintro e w1 ⟨rfl, F1, hC1, hs1⟩
  have HH := hide (proof_w _ ps xo xc cb b g 0 F1 E w1 hC1 ((hs1.oth g 0 hgl hgF (fun h => h)).trans hp) ((unhide H).2.stp hs1) ((unhide H).1.stp hs1 (fun _ _ _ h => h)) hn (CS.pForm_room hroom 6))
  have H1 := hide hs1
  clear hC1 hs1
  go_wp2_with fail
  refine (unhide HH).mono ?_
  rintro e w2 ⟨rfl, F2, hC2, hs2⟩
  have H2 := hide (And.intro hC2 ((unhide H1).trans hs2 (fun _ _ _ h => h)))
  clear hC2 hs2
  go_wp2_with fail
  go_end0
  exact ⟨rfl, F2, (unhide H2).1, (unhide H2).2⟩
set_option maxRecDepth 100000 in
theorem whole_Proof_r (q : Q) (cb b g : Nat) (F : Nat → Prop) (E : Nat → Addr) (w : World) (h : Cd w cb b F (.rd q) E) (hp : w.cell? ⟨g, 0, none⟩ = some (.slice none 0 0)) (hL : Loc w cb F g 0) :
    Calls Tryz.prog 74 #[.pointer (some ⟨cb, 0, none⟩), .iface 174 (.pointer (some ⟨g, 0, none⟩))] w fun e w' => e = .returned (.tuple #[]) ∧ ∃ F', Cd w' cb b F' (((CS.rd q).pForm 6).pProof []).1 E ∧ ∃ x, w'.cell? ⟨g, 0, none⟩ = some x ∧ OwP w' w.heap.size x (((CS.rd q).pForm 6).pProof []).2 F' ∧ Stp w w' F F' (fun k j => k = g ∧ j = 0) := by
  have t0 := Tryz.wh_Proof
  have t1 := Tryz.wm_Proof_Request
  have t2 := Tryz.wm_Proof_Answer
  have t3 := Tryz.wm_Proof_Event
  have t4 := Tryz.wm_Proof_Head
  have t5 := Tryz.wm_Proof_Signed
  have HF := hide (form_any (.rd q) 6 cb b F E w h (by decide) (by simp only [CS.room, CS.len]; omega))
  have hgl := hL.lt
  have hgF := hL.nF
  have H := hide hL
  clear h hL
  go_enter Tryz.func74, Tryz.ntmps74
  go_wp2_with fail
  refine (unhide HF).mono ?_
  rintro e w1 ⟨rfl, F1, hC1, hs1⟩
  have HH := hide (proof_r _ cb b g 0 F1 E w1 hC1 ((hs1.oth g 0 hgl hgF (fun h => h)).trans hp) ((unhide H).stp hs1))
  have H1 := hide hs1
  clear hC1 hs1
  go_wp2_with fail
  refine (unhide HH).mono ?_
  rintro e w2 ⟨rfl, F2, hC2, x, hx, hO, hs2⟩
  have H2 := hide (And.intro hC2 (And.intro hx (And.intro (hO.base (unhide H1).size) (((unhide H1).mono (fun _ _ _ h => h.elim)).trans hs2 (fun _ _ _ h => h)))))
  clear hC2 hs2 hx hO
  go_wp2_with fail
  go_end0
  exact ⟨rfl, F2, (unhide H2).1, x, (unhide H2).2.1, (unhide H2).2.2.1, (unhide H2).2.2.2⟩
end Go.Proofs.YtcpbmphknonflaaGreatDoor

namespace Go.Proofs.YtcpbmphknonflaaGreatDoor
open Go.RowKit

/-- What a writer tells. -/
def Wq.out (s : Wq) : List Nat := if s.f = none then s.l else []
theorem wDone_q (s : Wq) (b : Nat) (F : Nat → Prop) (E : Nat → Addr) (w : World) (h : W w b F (s.wst E)) (hok : s.ok) (hl : s.l.length ≤ 140737488355328) :
    Calls Tryz.prog 75 #[.pointer (some ⟨b, 0, none⟩)] w fun e w' => ∃ v err, e = .returned (.tuple #[v, err]) ∧ w'.ownsRow w.heap.size 5 1 v s.out.length (cellsOf s.out) ∧ ErrV w' err (ftV s.f) E ∧ Fr (fun _ => False) w w' := by
  obtain ⟨nm, l, f⟩ := s
  cases f with
  | none =>
    refine (wDone_ok b F _ w h rfl hl).mono ?_
    rintro e w' ⟨v, rfl, hown, hf⟩
    exact ⟨v, .nilIface, rfl, hown, .inl ⟨rfl, rfl⟩, hf⟩
  | some y =>
    refine (wDone_bad b F _ y.1 y.2.1 (E y.2.2) w h rfl).mono ?_
    rintro e w' ⟨rfl, rfl⟩
    exact ⟨.slice none 0 0, _, rfl, World.ownsRow_nil _ _ _ _, .inr ⟨(hok y rfl).1, (hok y rfl).2, _, rfl, heap_alloc_new _ _⟩, box1 w _⟩
set_option maxRecDepth 100000 in
/-- put. -/
theorem put_Head (vs : Array Value) (s' : Wq) (E : Nat → Addr) (w : World) (hg : G6 w E) (hw : 9 ≤ w.heap.size)
    (hwhole : ∀ w1 cb b F, Cd w1 cb b F (.wr ⟨ByteArray.empty, [], none⟩) E → (∀ (i : Nat) v, vs[i]? = some v → w1.cell? ⟨w.heap.size, i, none⟩ = some v) → (∀ i, Loc w1 cb F w.heap.size i) → (∀ k, F k → w.heap.size < k) → Fr (fun _ => False) w w1 → Calls Tryz.prog 74 #[.pointer (some ⟨cb, 0, none⟩), .iface 178 (.pointer (some ⟨w.heap.size, 0, none⟩))] w1 fun e w' => e = .returned (.tuple #[]) ∧ ∃ F', Cd w' cb b F' (.wr s') E ∧ Stp w1 w' F F' (fun k _ => k = w.heap.size)) (hlen : s'.l.length ≤ 140737488355328) :
    Calls Tryz.prog 53 #[.agg vs] w fun e w' => ∃ v err, e = .returned (.tuple #[v, err]) ∧ w'.ownsRow w.heap.size 5 1 v s'.out.length (cellsOf s'.out) ∧ ErrV w' err (ftV s'.f) E ∧ Fr (fun _ => False) w w' := by
  have hbx := box1 w (.cells vs 25)
  have HN := hide (newWriter_any (w.alloc (.cells vs 25)) (by simp; omega))
  have H := hide (And.intro hg (And.intro hwhole hbx))
  clear hg hwhole hbx
  go_enter Tryz.func53, Tryz.ntmps53
  go_wp2_with fail
  refine (unhide HN).mono ?_
  rintro e w1 ⟨rfl, hW1, hf1⟩
  have H1 := hide (And.intro hW1 hf1)
  clear hW1 hf1
  go_wp2_with fail
  obtain ⟨W2, hW2⟩ : ∃ W2, w1.alloc (.cells #[.pointer (some ⟨w.heap.size + 1, 0, none⟩), .pointer none] 144) = W2 := ⟨_, rfl⟩
  have hf12 : Fr (fun _ => False) w1 W2 := by rw [← hW2]; exact box1 _ _
  have hs0 : (w.alloc (.cells vs 25)).heap.size = w.heap.size + 1 := by simp
  have hf02 : Fr (fun _ => False) w W2 := ((unhide H).2.2.trans (unhide H1).2 (fun _ _ h => h)).trans hf12 (fun _ _ h => h)
  have hW1 := (unhide H1).1
  rw [hs0] at hW1
  have hs1 := (unhide H1).2.size
  have hlt1 := hW1.lt (w.heap.size + 1) rfl
  have hsz2 : W2.heap.size = w1.heap.size + 1 := by rw [← hW2]; simp
  have hC2 : Cd W2 w1.heap.size (w.heap.size + 1) (fun k => k = w.heap.size + 1) (.wr ⟨ByteArray.empty, [], none⟩) E := by
    refine ⟨(unhide H).1.fr hf02 (fun _ h => h.elim), fun hx => by omega, fun k hk => by omega, fun k hk => by omega, by omega, ?_, ?_, W.frame hW1 hf12 (fun _ _ h => h), fun y hy => by cases hy⟩
    · rw [← hW2, World.cell?_alloc_at _ _ _ _ rfl]; rfl
    · rw [← hW2, World.cell?_alloc_at _ _ _ _ rfl]; rfl
  have hcs : ∀ (i : Nat) v, vs[i]? = some v → W2.cell? ⟨w.heap.size, i, none⟩ = some v := fun i v hv => by
    refine (((unhide H1).2.trans hf12 (fun _ _ h => h)).cell (p := ⟨w.heap.size, i, none⟩) (by simp) (fun h => h)).trans ?_
    rw [World.cell?_alloc_at _ _ _ _ rfl]; exact hv
  have hLo : ∀ i, Loc W2 w1.heap.size (fun k => k = w.heap.size + 1) w.heap.size i := fun i =>
    ⟨(((unhide H1).2.trans hf12 (fun _ _ h => h)).frozen (p := ⟨w.heap.size, i, none⟩) (by simp) (fun h => h)).trans (by simp), by omega, by omega, by omega, by omega⟩
  have HW := hide ((unhide H).2.1 W2 w1.heap.size (w.heap.size + 1) _ hC2 hcs hLo (fun k hk => by omega) hf02)
  have hx2 := Nat.le_of_lt hlt1
  have H2 := hide (And.intro hf02 (And.intro hsz2 hlt1))
  clear hC2 hf02 hLo hsz2 hcs hf12 hW1 hs1 hs0 hlt1 hx2
  rw [hW2]
  clear hW2
  refine (unhide HW).mono ?_
  rintro e w3 ⟨rfl, F3, hC3, hs3⟩
  have h0 : w3.cell? ⟨w1.heap.size, 0, none⟩ = some (.pointer (some ⟨w.heap.size + 1, 0, none⟩)) := hC3.c0
  have hl0 := lt_of_cell h0
  have hf03 : Fr (fun _ => False) w w3 := ((unhide H2).1.mono (fun _ _ h => h)).trans hs3.fr (fun k hk hx => by rcases hx with hx | ⟨_, hx⟩ <;> omega)
  have HD := hide (wDone_q s' (w.heap.size + 1) F3 E w3 hC3.st hC3.fok hlen)
  have H3 := hide hf03
  clear hC3 hs3 hf03
  go_wp2_with fail
  refine (unhide HD).mono ?_
  rintro e w4 ⟨v, err, rfl, hown, hE, hf4⟩
  have H4 := hide (And.intro (ownsRow_base hown (unhide H3).size) (And.intro hE ((unhide H3).trans hf4 (fun _ _ h => h))))
  clear hown hE hf4
  go_wp2_with fail
  go_ret2
  exact ⟨v, err, rfl, (unhide H4).1, (unhide H4).2.1, (unhide H4).2.2⟩
set_option maxRecDepth 100000 in
/-- put. -/
theorem put_Signed (vs : Array Value) (s' : Wq) (E : Nat → Addr) (w : World) (hg : G6 w E) (hw : 9 ≤ w.heap.size)
    (hwhole : ∀ w1 cb b F, Cd w1 cb b F (.wr ⟨ByteArray.empty, [], none⟩) E → (∀ (i : Nat) v, vs[i]? = some v → w1.cell? ⟨w.heap.size, i, none⟩ = some v) → (∀ i, Loc w1 cb F w.heap.size i) → (∀ k, F k → w.heap.size < k) → Fr (fun _ => False) w w1 → Calls Tryz.prog 74 #[.pointer (some ⟨cb, 0, none⟩), .iface 177 (.pointer (some ⟨w.heap.size, 0, none⟩))] w1 fun e w' => e = .returned (.tuple #[]) ∧ ∃ F', Cd w' cb b F' (.wr s') E ∧ Stp w1 w' F F' (fun k _ => k = w.heap.size)) (hlen : s'.l.length ≤ 140737488355328) :
    Calls Tryz.prog 51 #[.agg vs] w fun e w' => ∃ v err, e = .returned (.tuple #[v, err]) ∧ w'.ownsRow w.heap.size 5 1 v s'.out.length (cellsOf s'.out) ∧ ErrV w' err (ftV s'.f) E ∧ Fr (fun _ => False) w w' := by
  have hbx := box1 w (.cells vs 37)
  have HN := hide (newWriter_any (w.alloc (.cells vs 37)) (by simp; omega))
  have H := hide (And.intro hg (And.intro hwhole hbx))
  clear hg hwhole hbx
  go_enter Tryz.func51, Tryz.ntmps51
  go_wp2_with fail
  refine (unhide HN).mono ?_
  rintro e w1 ⟨rfl, hW1, hf1⟩
  have H1 := hide (And.intro hW1 hf1)
  clear hW1 hf1
  go_wp2_with fail
  obtain ⟨W2, hW2⟩ : ∃ W2, w1.alloc (.cells #[.pointer (some ⟨w.heap.size + 1, 0, none⟩), .pointer none] 144) = W2 := ⟨_, rfl⟩
  have hf12 : Fr (fun _ => False) w1 W2 := by rw [← hW2]; exact box1 _ _
  have hs0 : (w.alloc (.cells vs 37)).heap.size = w.heap.size + 1 := by simp
  have hf02 : Fr (fun _ => False) w W2 := ((unhide H).2.2.trans (unhide H1).2 (fun _ _ h => h)).trans hf12 (fun _ _ h => h)
  have hW1 := (unhide H1).1
  rw [hs0] at hW1
  have hs1 := (unhide H1).2.size
  have hlt1 := hW1.lt (w.heap.size + 1) rfl
  have hsz2 : W2.heap.size = w1.heap.size + 1 := by rw [← hW2]; simp
  have hC2 : Cd W2 w1.heap.size (w.heap.size + 1) (fun k => k = w.heap.size + 1) (.wr ⟨ByteArray.empty, [], none⟩) E := by
    refine ⟨(unhide H).1.fr hf02 (fun _ h => h.elim), fun hx => by omega, fun k hk => by omega, fun k hk => by omega, by omega, ?_, ?_, W.frame hW1 hf12 (fun _ _ h => h), fun y hy => by cases hy⟩
    · rw [← hW2, World.cell?_alloc_at _ _ _ _ rfl]; rfl
    · rw [← hW2, World.cell?_alloc_at _ _ _ _ rfl]; rfl
  have hcs : ∀ (i : Nat) v, vs[i]? = some v → W2.cell? ⟨w.heap.size, i, none⟩ = some v := fun i v hv => by
    refine (((unhide H1).2.trans hf12 (fun _ _ h => h)).cell (p := ⟨w.heap.size, i, none⟩) (by simp) (fun h => h)).trans ?_
    rw [World.cell?_alloc_at _ _ _ _ rfl]; exact hv
  have hLo : ∀ i, Loc W2 w1.heap.size (fun k => k = w.heap.size + 1) w.heap.size i := fun i =>
    ⟨(((unhide H1).2.trans hf12 (fun _ _ h => h)).frozen (p := ⟨w.heap.size, i, none⟩) (by simp) (fun h => h)).trans (by simp), by omega, by omega, by omega, by omega⟩
  have HW := hide ((unhide H).2.1 W2 w1.heap.size (w.heap.size + 1) _ hC2 hcs hLo (fun k hk => by omega) hf02)
  have hx2 := Nat.le_of_lt hlt1
  have H2 := hide (And.intro hf02 (And.intro hsz2 hlt1))
  clear hC2 hf02 hLo hsz2 hcs hf12 hW1 hs1 hs0 hlt1 hx2
  rw [hW2]
  clear hW2
  refine (unhide HW).mono ?_
  rintro e w3 ⟨rfl, F3, hC3, hs3⟩
  have h0 : w3.cell? ⟨w1.heap.size, 0, none⟩ = some (.pointer (some ⟨w.heap.size + 1, 0, none⟩)) := hC3.c0
  have hl0 := lt_of_cell h0
  have hf03 : Fr (fun _ => False) w w3 := ((unhide H2).1.mono (fun _ _ h => h)).trans hs3.fr (fun k hk hx => by rcases hx with hx | ⟨_, hx⟩ <;> omega)
  have HD := hide (wDone_q s' (w.heap.size + 1) F3 E w3 hC3.st hC3.fok hlen)
  have H3 := hide hf03
  clear hC3 hs3 hf03
  go_wp2_with fail
  refine (unhide HD).mono ?_
  rintro e w4 ⟨v, err, rfl, hown, hE, hf4⟩
  have H4 := hide (And.intro (ownsRow_base hown (unhide H3).size) (And.intro hE ((unhide H3).trans hf4 (fun _ _ h => h))))
  clear hown hE hf4
  go_wp2_with fail
  go_ret2
  exact ⟨v, err, rfl, (unhide H4).1, (unhide H4).2.1, (unhide H4).2.2⟩
set_option maxRecDepth 100000 in
/-- put. -/
theorem put_Proof (vs : Array Value) (s' : Wq) (E : Nat → Addr) (w : World) (hg : G6 w E) (hw : 9 ≤ w.heap.size)
    (hwhole : ∀ w1 cb b F, Cd w1 cb b F (.wr ⟨ByteArray.empty, [], none⟩) E → (∀ (i : Nat) v, vs[i]? = some v → w1.cell? ⟨w.heap.size, i, none⟩ = some v) → (∀ i, Loc w1 cb F w.heap.size i) → (∀ k, F k → w.heap.size < k) → Fr (fun _ => False) w w1 → Calls Tryz.prog 74 #[.pointer (some ⟨cb, 0, none⟩), .iface 174 (.pointer (some ⟨w.heap.size, 0, none⟩))] w1 fun e w' => e = .returned (.tuple #[]) ∧ ∃ F', Cd w' cb b F' (.wr s') E ∧ Stp w1 w' F F' (fun k _ => k = w.heap.size)) (hlen : s'.l.length ≤ 140737488355328) :
    Calls Tryz.prog 49 #[.agg vs] w fun e w' => ∃ v err, e = .returned (.tuple #[v, err]) ∧ w'.ownsRow w.heap.size 5 1 v s'.out.length (cellsOf s'.out) ∧ ErrV w' err (ftV s'.f) E ∧ Fr (fun _ => False) w w' := by
  have hbx := box1 w (.cells vs 40)
  have HN := hide (newWriter_any (w.alloc (.cells vs 40)) (by simp; omega))
  have H := hide (And.intro hg (And.intro hwhole hbx))
  clear hg hwhole hbx
  go_enter Tryz.func49, Tryz.ntmps49
  go_wp2_with fail
  refine (unhide HN).mono ?_
  rintro e w1 ⟨rfl, hW1, hf1⟩
  have H1 := hide (And.intro hW1 hf1)
  clear hW1 hf1
  go_wp2_with fail
  obtain ⟨W2, hW2⟩ : ∃ W2, w1.alloc (.cells #[.pointer (some ⟨w.heap.size + 1, 0, none⟩), .pointer none] 144) = W2 := ⟨_, rfl⟩
  have hf12 : Fr (fun _ => False) w1 W2 := by rw [← hW2]; exact box1 _ _
  have hs0 : (w.alloc (.cells vs 40)).heap.size = w.heap.size + 1 := by simp
  have hf02 : Fr (fun _ => False) w W2 := ((unhide H).2.2.trans (unhide H1).2 (fun _ _ h => h)).trans hf12 (fun _ _ h => h)
  have hW1 := (unhide H1).1
  rw [hs0] at hW1
  have hs1 := (unhide H1).2.size
  have hlt1 := hW1.lt (w.heap.size + 1) rfl
  have hsz2 : W2.heap.size = w1.heap.size + 1 := by rw [← hW2]; simp
  have hC2 : Cd W2 w1.heap.size (w.heap.size + 1) (fun k => k = w.heap.size + 1) (.wr ⟨ByteArray.empty, [], none⟩) E := by
    refine ⟨(unhide H).1.fr hf02 (fun _ h => h.elim), fun hx => by omega, fun k hk => by omega, fun k hk => by omega, by omega, ?_, ?_, W.frame hW1 hf12 (fun _ _ h => h), fun y hy => by cases hy⟩
    · rw [← hW2, World.cell?_alloc_at _ _ _ _ rfl]; rfl
    · rw [← hW2, World.cell?_alloc_at _ _ _ _ rfl]; rfl
  have hcs : ∀ (i : Nat) v, vs[i]? = some v → W2.cell? ⟨w.heap.size, i, none⟩ = some v := fun i v hv => by
    refine (((unhide H1).2.trans hf12 (fun _ _ h => h)).cell (p := ⟨w.heap.size, i, none⟩) (by simp) (fun h => h)).trans ?_
    rw [World.cell?_alloc_at _ _ _ _ rfl]; exact hv
  have hLo : ∀ i, Loc W2 w1.heap.size (fun k => k = w.heap.size + 1) w.heap.size i := fun i =>
    ⟨(((unhide H1).2.trans hf12 (fun _ _ h => h)).frozen (p := ⟨w.heap.size, i, none⟩) (by simp) (fun h => h)).trans (by simp), by omega, by omega, by omega, by omega⟩
  have HW := hide ((unhide H).2.1 W2 w1.heap.size (w.heap.size + 1) _ hC2 hcs hLo (fun k hk => by omega) hf02)
  have hx2 := Nat.le_of_lt hlt1
  have H2 := hide (And.intro hf02 (And.intro hsz2 hlt1))
  clear hC2 hf02 hLo hsz2 hcs hf12 hW1 hs1 hs0 hlt1 hx2
  rw [hW2]
  clear hW2
  refine (unhide HW).mono ?_
  rintro e w3 ⟨rfl, F3, hC3, hs3⟩
  have h0 : w3.cell? ⟨w1.heap.size, 0, none⟩ = some (.pointer (some ⟨w.heap.size + 1, 0, none⟩)) := hC3.c0
  have hl0 := lt_of_cell h0
  have hf03 : Fr (fun _ => False) w w3 := ((unhide H2).1.mono (fun _ _ h => h)).trans hs3.fr (fun k hk hx => by rcases hx with hx | ⟨_, hx⟩ <;> omega)
  have HD := hide (wDone_q s' (w.heap.size + 1) F3 E w3 hC3.st hC3.fok hlen)
  have H3 := hide hf03
  clear hC3 hs3 hf03
  go_wp2_with fail
  refine (unhide HD).mono ?_
  rintro e w4 ⟨v, err, rfl, hown, hE, hf4⟩
  have H4 := hide (And.intro (ownsRow_base hown (unhide H3).size) (And.intro hE ((unhide H3).trans hf4 (fun _ _ h => h))))
  clear hown hE hf4
  go_wp2_with fail
  go_ret2
  exact ⟨v, err, rfl, (unhide H4).1, (unhide H4).2.1, (unhide H4).2.2⟩
set_option maxRecDepth 100000 in
/-- put. -/
theorem put_Request (vs : Array Value) (s' : Wq) (E : Nat → Addr) (w : World) (hg : G6 w E) (hw : 9 ≤ w.heap.size)
    (hwhole : ∀ w1 cb b F, Cd w1 cb b F (.wr ⟨ByteArray.empty, [], none⟩) E → (∀ (i : Nat) v, vs[i]? = some v → w1.cell? ⟨w.heap.size, i, none⟩ = some v) → (∀ i, Loc w1 cb F w.heap.size i) → (∀ k, F k → w.heap.size < k) → Fr (fun _ => False) w w1 → Calls Tryz.prog 74 #[.pointer (some ⟨cb, 0, none⟩), .iface 158 (.pointer (some ⟨w.heap.size, 0, none⟩))] w1 fun e w' => e = .returned (.tuple #[]) ∧ ∃ F', Cd w' cb b F' (.wr s') E ∧ Stp w1 w' F F' (fun k _ => k = w.heap.size)) (hlen : s'.l.length ≤ 140737488355328) :
    Calls Tryz.prog 35 #[.agg vs] w fun e w' => ∃ v err, e = .returned (.tuple #[v, err]) ∧ w'.ownsRow w.heap.size 5 1 v s'.out.length (cellsOf s'.out) ∧ ErrV w' err (ftV s'.f) E ∧ Fr (fun _ => False) w w' := by
  have hbx := box1 w (.cells vs 30)
  have HN := hide (newWriter_any (w.alloc (.cells vs 30)) (by simp; omega))
  have H := hide (And.intro hg (And.intro hwhole hbx))
  clear hg hwhole hbx
  go_enter Tryz.func35, Tryz.ntmps35
  go_wp2_with fail
  refine (unhide HN).mono ?_
  rintro e w1 ⟨rfl, hW1, hf1⟩
  have H1 := hide (And.intro hW1 hf1)
  clear hW1 hf1
  go_wp2_with fail
  obtain ⟨W2, hW2⟩ : ∃ W2, w1.alloc (.cells #[.pointer (some ⟨w.heap.size + 1, 0, none⟩), .pointer none] 144) = W2 := ⟨_, rfl⟩
  have hf12 : Fr (fun _ => False) w1 W2 := by rw [← hW2]; exact box1 _ _
  have hs0 : (w.alloc (.cells vs 30)).heap.size = w.heap.size + 1 := by simp
  have hf02 : Fr (fun _ => False) w W2 := ((unhide H).2.2.trans (unhide H1).2 (fun _ _ h => h)).trans hf12 (fun _ _ h => h)
  have hW1 := (unhide H1).1
  rw [hs0] at hW1
  have hs1 := (unhide H1).2.size
  have hlt1 := hW1.lt (w.heap.size + 1) rfl
  have hsz2 : W2.heap.size = w1.heap.size + 1 := by rw [← hW2]; simp
  have hC2 : Cd W2 w1.heap.size (w.heap.size + 1) (fun k => k = w.heap.size + 1) (.wr ⟨ByteArray.empty, [], none⟩) E := by
    refine ⟨(unhide H).1.fr hf02 (fun _ h => h.elim), fun hx => by omega, fun k hk => by omega, fun k hk => by omega, by omega, ?_, ?_, W.frame hW1 hf12 (fun _ _ h => h), fun y hy => by cases hy⟩
    · rw [← hW2, World.cell?_alloc_at _ _ _ _ rfl]; rfl
    · rw [← hW2, World.cell?_alloc_at _ _ _ _ rfl]; rfl
  have hcs : ∀ (i : Nat) v, vs[i]? = some v → W2.cell? ⟨w.heap.size, i, none⟩ = some v := fun i v hv => by
    refine (((unhide H1).2.trans hf12 (fun _ _ h => h)).cell (p := ⟨w.heap.size, i, none⟩) (by simp) (fun h => h)).trans ?_
    rw [World.cell?_alloc_at _ _ _ _ rfl]; exact hv
  have hLo : ∀ i, Loc W2 w1.heap.size (fun k => k = w.heap.size + 1) w.heap.size i := fun i =>
    ⟨(((unhide H1).2.trans hf12 (fun _ _ h => h)).frozen (p := ⟨w.heap.size, i, none⟩) (by simp) (fun h => h)).trans (by simp), by omega, by omega, by omega, by omega⟩
  have HW := hide ((unhide H).2.1 W2 w1.heap.size (w.heap.size + 1) _ hC2 hcs hLo (fun k hk => by omega) hf02)
  have hx2 := Nat.le_of_lt hlt1
  have H2 := hide (And.intro hf02 (And.intro hsz2 hlt1))
  clear hC2 hf02 hLo hsz2 hcs hf12 hW1 hs1 hs0 hlt1 hx2
  rw [hW2]
  clear hW2
  refine (unhide HW).mono ?_
  rintro e w3 ⟨rfl, F3, hC3, hs3⟩
  have h0 : w3.cell? ⟨w1.heap.size, 0, none⟩ = some (.pointer (some ⟨w.heap.size + 1, 0, none⟩)) := hC3.c0
  have hl0 := lt_of_cell h0
  have hf03 : Fr (fun _ => False) w w3 := ((unhide H2).1.mono (fun _ _ h => h)).trans hs3.fr (fun k hk hx => by rcases hx with hx | ⟨_, hx⟩ <;> omega)
  have HD := hide (wDone_q s' (w.heap.size + 1) F3 E w3 hC3.st hC3.fok hlen)
  have H3 := hide hf03
  clear hC3 hs3 hf03
  go_wp2_with fail
  refine (unhide HD).mono ?_
  rintro e w4 ⟨v, err, rfl, hown, hE, hf4⟩
  have H4 := hide (And.intro (ownsRow_base hown (unhide H3).size) (And.intro hE ((unhide H3).trans hf4 (fun _ _ h => h))))
  clear hown hE hf4
  go_wp2_with fail
  go_ret2
  exact ⟨v, err, rfl, (unhide H4).1, (unhide H4).2.1, (unhide H4).2.2⟩
set_option maxRecDepth 100000 in
/-- put. -/
theorem put_Answer (vs : Array Value) (s' : Wq) (E : Nat → Addr) (w : World) (hg : G6 w E) (hw : 9 ≤ w.heap.size)
    (hwhole : ∀ w1 cb b F, Cd w1 cb b F (.wr ⟨ByteArray.empty, [], none⟩) E → (∀ (i : Nat) v, vs[i]? = some v → w1.cell? ⟨w.heap.size, i, none⟩ = some v) → (∀ i, Loc w1 cb F w.heap.size i) → (∀ k, F k → w.heap.size < k) → Fr (fun _ => False) w w1 → Calls Tryz.prog 74 #[.pointer (some ⟨cb, 0, none⟩), .iface 159 (.pointer (some ⟨w.heap.size, 0, none⟩))] w1 fun e w' => e = .returned (.tuple #[]) ∧ ∃ F', Cd w' cb b F' (.wr s') E ∧ Stp w1 w' F F' (fun k _ => k = w.heap.size)) (hlen : s'.l.length ≤ 140737488355328) :
    Calls Tryz.prog 36 #[.agg vs] w fun e w' => ∃ v err, e = .returned (.tuple #[v, err]) ∧ w'.ownsRow w.heap.size 5 1 v s'.out.length (cellsOf s'.out) ∧ ErrV w' err (ftV s'.f) E ∧ Fr (fun _ => False) w w' := by
  have hbx := box1 w (.cells vs 33)
  have HN := hide (newWriter_any (w.alloc (.cells vs 33)) (by simp; omega))
  have H := hide (And.intro hg (And.intro hwhole hbx))
  clear hg hwhole hbx
  go_enter Tryz.func36, Tryz.ntmps36
  go_wp2_with fail
  refine (unhide HN).mono ?_
  rintro e w1 ⟨rfl, hW1, hf1⟩
  have H1 := hide (And.intro hW1 hf1)
  clear hW1 hf1
  go_wp2_with fail
  obtain ⟨W2, hW2⟩ : ∃ W2, w1.alloc (.cells #[.pointer (some ⟨w.heap.size + 1, 0, none⟩), .pointer none] 144) = W2 := ⟨_, rfl⟩
  have hf12 : Fr (fun _ => False) w1 W2 := by rw [← hW2]; exact box1 _ _
  have hs0 : (w.alloc (.cells vs 33)).heap.size = w.heap.size + 1 := by simp
  have hf02 : Fr (fun _ => False) w W2 := ((unhide H).2.2.trans (unhide H1).2 (fun _ _ h => h)).trans hf12 (fun _ _ h => h)
  have hW1 := (unhide H1).1
  rw [hs0] at hW1
  have hs1 := (unhide H1).2.size
  have hlt1 := hW1.lt (w.heap.size + 1) rfl
  have hsz2 : W2.heap.size = w1.heap.size + 1 := by rw [← hW2]; simp
  have hC2 : Cd W2 w1.heap.size (w.heap.size + 1) (fun k => k = w.heap.size + 1) (.wr ⟨ByteArray.empty, [], none⟩) E := by
    refine ⟨(unhide H).1.fr hf02 (fun _ h => h.elim), fun hx => by omega, fun k hk => by omega, fun k hk => by omega, by omega, ?_, ?_, W.frame hW1 hf12 (fun _ _ h => h), fun y hy => by cases hy⟩
    · rw [← hW2, World.cell?_alloc_at _ _ _ _ rfl]; rfl
    · rw [← hW2, World.cell?_alloc_at _ _ _ _ rfl]; rfl
  have hcs : ∀ (i : Nat) v, vs[i]? = some v → W2.cell? ⟨w.heap.size, i, none⟩ = some v := fun i v hv => by
    refine (((unhide H1).2.trans hf12 (fun _ _ h => h)).cell (p := ⟨w.heap.size, i, none⟩) (by simp) (fun h => h)).trans ?_
    rw [World.cell?_alloc_at _ _ _ _ rfl]; exact hv
  have hLo : ∀ i, Loc W2 w1.heap.size (fun k => k = w.heap.size + 1) w.heap.size i := fun i =>
    ⟨(((unhide H1).2.trans hf12 (fun _ _ h => h)).frozen (p := ⟨w.heap.size, i, none⟩) (by simp) (fun h => h)).trans (by simp), by omega, by omega, by omega, by omega⟩
  have HW := hide ((unhide H).2.1 W2 w1.heap.size (w.heap.size + 1) _ hC2 hcs hLo (fun k hk => by omega) hf02)
  have hx2 := Nat.le_of_lt hlt1
  have H2 := hide (And.intro hf02 (And.intro hsz2 hlt1))
  clear hC2 hf02 hLo hsz2 hcs hf12 hW1 hs1 hs0 hlt1 hx2
  rw [hW2]
  clear hW2
  refine (unhide HW).mono ?_
  rintro e w3 ⟨rfl, F3, hC3, hs3⟩
  have h0 : w3.cell? ⟨w1.heap.size, 0, none⟩ = some (.pointer (some ⟨w.heap.size + 1, 0, none⟩)) := hC3.c0
  have hl0 := lt_of_cell h0
  have hf03 : Fr (fun _ => False) w w3 := ((unhide H2).1.mono (fun _ _ h => h)).trans hs3.fr (fun k hk hx => by rcases hx with hx | ⟨_, hx⟩ <;> omega)
  have HD := hide (wDone_q s' (w.heap.size + 1) F3 E w3 hC3.st hC3.fok hlen)
  have H3 := hide hf03
  clear hC3 hs3 hf03
  go_wp2_with fail
  refine (unhide HD).mono ?_
  rintro e w4 ⟨v, err, rfl, hown, hE, hf4⟩
  have H4 := hide (And.intro (ownsRow_base hown (unhide H3).size) (And.intro hE ((unhide H3).trans hf4 (fun _ _ h => h))))
  clear hown hE hf4
  go_wp2_with fail
  go_ret2
  exact ⟨v, err, rfl, (unhide H4).1, (unhide H4).2.1, (unhide H4).2.2⟩
set_option maxRecDepth 100000 in
/-- put. -/
theorem put_Event (vs : Array Value) (s' : Wq) (E : Nat → Addr) (w : World) (hg : G6 w E) (hw : 9 ≤ w.heap.size)
    (hwhole : ∀ w1 cb b F, Cd w1 cb b F (.wr ⟨ByteArray.empty, [], none⟩) E → (∀ (i : Nat) v, vs[i]? = some v → w1.cell? ⟨w.heap.size, i, none⟩ = some v) → (∀ i, Loc w1 cb F w.heap.size i) → (∀ k, F k → w.heap.size < k) → Fr (fun _ => False) w w1 → Calls Tryz.prog 74 #[.pointer (some ⟨cb, 0, none⟩), .iface 213 (.pointer (some ⟨w.heap.size, 0, none⟩))] w1 fun e w' => e = .returned (.tuple #[]) ∧ ∃ F', Cd w' cb b F' (.wr s') E ∧ Stp w1 w' F F' (fun k _ => k = w.heap.size)) (hlen : s'.l.length ≤ 140737488355328) :
    Calls Tryz.prog 80 #[.agg vs] w fun e w' => ∃ v err, e = .returned (.tuple #[v, err]) ∧ w'.ownsRow w.heap.size 5 1 v s'.out.length (cellsOf s'.out) ∧ ErrV w' err (ftV s'.f) E ∧ Fr (fun _ => False) w w' := by
  have hbx := box1 w (.cells vs 35)
  have HN := hide (newWriter_any (w.alloc (.cells vs 35)) (by simp; omega))
  have H := hide (And.intro hg (And.intro hwhole hbx))
  clear hg hwhole hbx
  go_enter Tryz.func80, Tryz.ntmps80
  go_wp2_with fail
  refine (unhide HN).mono ?_
  rintro e w1 ⟨rfl, hW1, hf1⟩
  have H1 := hide (And.intro hW1 hf1)
  clear hW1 hf1
  go_wp2_with fail
  obtain ⟨W2, hW2⟩ : ∃ W2, w1.alloc (.cells #[.pointer (some ⟨w.heap.size + 1, 0, none⟩), .pointer none] 144) = W2 := ⟨_, rfl⟩
  have hf12 : Fr (fun _ => False) w1 W2 := by rw [← hW2]; exact box1 _ _
  have hs0 : (w.alloc (.cells vs 35)).heap.size = w.heap.size + 1 := by simp
  have hf02 : Fr (fun _ => False) w W2 := ((unhide H).2.2.trans (unhide H1).2 (fun _ _ h => h)).trans hf12 (fun _ _ h => h)
  have hW1 := (unhide H1).1
  rw [hs0] at hW1
  have hs1 := (unhide H1).2.size
  have hlt1 := hW1.lt (w.heap.size + 1) rfl
  have hsz2 : W2.heap.size = w1.heap.size + 1 := by rw [← hW2]; simp
  have hC2 : Cd W2 w1.heap.size (w.heap.size + 1) (fun k => k = w.heap.size + 1) (.wr ⟨ByteArray.empty, [], none⟩) E := by
    refine ⟨(unhide H).1.fr hf02 (fun _ h => h.elim), fun hx => by omega, fun k hk => by omega, fun k hk => by omega, by omega, ?_, ?_, W.frame hW1 hf12 (fun _ _ h => h), fun y hy => by cases hy⟩
    · rw [← hW2, World.cell?_alloc_at _ _ _ _ rfl]; rfl
    · rw [← hW2, World.cell?_alloc_at _ _ _ _ rfl]; rfl
  have hcs : ∀ (i : Nat) v, vs[i]? = some v → W2.cell? ⟨w.heap.size, i, none⟩ = some v := fun i v hv => by
    refine (((unhide H1).2.trans hf12 (fun _ _ h => h)).cell (p := ⟨w.heap.size, i, none⟩) (by simp) (fun h => h)).trans ?_
    rw [World.cell?_alloc_at _ _ _ _ rfl]; exact hv
  have hLo : ∀ i, Loc W2 w1.heap.size (fun k => k = w.heap.size + 1) w.heap.size i := fun i =>
    ⟨(((unhide H1).2.trans hf12 (fun _ _ h => h)).frozen (p := ⟨w.heap.size, i, none⟩) (by simp) (fun h => h)).trans (by simp), by omega, by omega, by omega, by omega⟩
  have HW := hide ((unhide H).2.1 W2 w1.heap.size (w.heap.size + 1) _ hC2 hcs hLo (fun k hk => by omega) hf02)
  have hx2 := Nat.le_of_lt hlt1
  have H2 := hide (And.intro hf02 (And.intro hsz2 hlt1))
  clear hC2 hf02 hLo hsz2 hcs hf12 hW1 hs1 hs0 hlt1 hx2
  rw [hW2]
  clear hW2
  refine (unhide HW).mono ?_
  rintro e w3 ⟨rfl, F3, hC3, hs3⟩
  have h0 : w3.cell? ⟨w1.heap.size, 0, none⟩ = some (.pointer (some ⟨w.heap.size + 1, 0, none⟩)) := hC3.c0
  have hl0 := lt_of_cell h0
  have hf03 : Fr (fun _ => False) w w3 := ((unhide H2).1.mono (fun _ _ h => h)).trans hs3.fr (fun k hk hx => by rcases hx with hx | ⟨_, hx⟩ <;> omega)
  have HD := hide (wDone_q s' (w.heap.size + 1) F3 E w3 hC3.st hC3.fok hlen)
  have H3 := hide hf03
  clear hC3 hs3 hf03
  go_wp2_with fail
  refine (unhide HD).mono ?_
  rintro e w4 ⟨v, err, rfl, hown, hE, hf4⟩
  have H4 := hide (And.intro (ownsRow_base hown (unhide H3).size) (And.intro hE ((unhide H3).trans hf4 (fun _ _ h => h))))
  clear hown hE hf4
  go_wp2_with fail
  go_ret2
  exact ⟨v, err, rfl, (unhide H4).1, (unhide H4).2.1, (unhide H4).2.2⟩
set_option maxRecDepth 100000 in
/-- put. -/
theorem put_Message (vs : Array Value) (s' : Wq) (E : Nat → Addr) (w : World) (hg : G6 w E) (hw : 9 ≤ w.heap.size)
    (hwhole : ∀ w1 cb b F, Cd w1 cb b F (.wr ⟨ByteArray.empty, [], none⟩) E → (∀ (i : Nat) v, vs[i]? = some v → w1.cell? ⟨w.heap.size, i, none⟩ = some v) → (∀ i, Loc w1 cb F w.heap.size i) → (∀ k, F k → w.heap.size < k) → Fr (fun _ => False) w w1 → Calls Tryz.prog 74 #[.pointer (some ⟨cb, 0, none⟩), .iface 146 (.pointer (some ⟨w.heap.size, 0, none⟩))] w1 fun e w' => e = .returned (.tuple #[]) ∧ ∃ F', Cd w' cb b F' (.wr s') E ∧ Stp w1 w' F F' (fun k _ => k = w.heap.size)) (hlen : s'.l.length ≤ 140737488355328) :
    Calls Tryz.prog 32 #[.agg vs] w fun e w' => ∃ v err, e = .returned (.tuple #[v, err]) ∧ w'.ownsRow w.heap.size 5 1 v s'.out.length (cellsOf s'.out) ∧ ErrV w' err (ftV s'.f) E ∧ Fr (fun _ => False) w w' := by
  have hbx := box1 w (.cells vs 42)
  have HN := hide (newWriter_any (w.alloc (.cells vs 42)) (by simp; omega))
  have H := hide (And.intro hg (And.intro hwhole hbx))
  clear hg hwhole hbx
  go_enter Tryz.func32, Tryz.ntmps32
  go_wp2_with fail
  refine (unhide HN).mono ?_
  rintro e w1 ⟨rfl, hW1, hf1⟩
  have H1 := hide (And.intro hW1 hf1)
  clear hW1 hf1
  go_wp2_with fail
  obtain ⟨W2, hW2⟩ : ∃ W2, w1.alloc (.cells #[.pointer (some ⟨w.heap.size + 1, 0, none⟩), .pointer none] 144) = W2 := ⟨_, rfl⟩
  have hf12 : Fr (fun _ => False) w1 W2 := by rw [← hW2]; exact box1 _ _
  have hs0 : (w.alloc (.cells vs 42)).heap.size = w.heap.size + 1 := by simp
  have hf02 : Fr (fun _ => False) w W2 := ((unhide H).2.2.trans (unhide H1).2 (fun _ _ h => h)).trans hf12 (fun _ _ h => h)
  have hW1 := (unhide H1).1
  rw [hs0] at hW1
  have hs1 := (unhide H1).2.size
  have hlt1 := hW1.lt (w.heap.size + 1) rfl
  have hsz2 : W2.heap.size = w1.heap.size + 1 := by rw [← hW2]; simp
  have hC2 : Cd W2 w1.heap.size (w.heap.size + 1) (fun k => k = w.heap.size + 1) (.wr ⟨ByteArray.empty, [], none⟩) E := by
    refine ⟨(unhide H).1.fr hf02 (fun _ h => h.elim), fun hx => by omega, fun k hk => by omega, fun k hk => by omega, by omega, ?_, ?_, W.frame hW1 hf12 (fun _ _ h => h), fun y hy => by cases hy⟩
    · rw [← hW2, World.cell?_alloc_at _ _ _ _ rfl]; rfl
    · rw [← hW2, World.cell?_alloc_at _ _ _ _ rfl]; rfl
  have hcs : ∀ (i : Nat) v, vs[i]? = some v → W2.cell? ⟨w.heap.size, i, none⟩ = some v := fun i v hv => by
    refine (((unhide H1).2.trans hf12 (fun _ _ h => h)).cell (p := ⟨w.heap.size, i, none⟩) (by simp) (fun h => h)).trans ?_
    rw [World.cell?_alloc_at _ _ _ _ rfl]; exact hv
  have hLo : ∀ i, Loc W2 w1.heap.size (fun k => k = w.heap.size + 1) w.heap.size i := fun i =>
    ⟨(((unhide H1).2.trans hf12 (fun _ _ h => h)).frozen (p := ⟨w.heap.size, i, none⟩) (by simp) (fun h => h)).trans (by simp), by omega, by omega, by omega, by omega⟩
  have HW := hide ((unhide H).2.1 W2 w1.heap.size (w.heap.size + 1) _ hC2 hcs hLo (fun k hk => by omega) hf02)
  have hx2 := Nat.le_of_lt hlt1
  have H2 := hide (And.intro hf02 (And.intro hsz2 hlt1))
  clear hC2 hf02 hLo hsz2 hcs hf12 hW1 hs1 hs0 hlt1 hx2
  rw [hW2]
  clear hW2
  refine (unhide HW).mono ?_
  rintro e w3 ⟨rfl, F3, hC3, hs3⟩
  have h0 : w3.cell? ⟨w1.heap.size, 0, none⟩ = some (.pointer (some ⟨w.heap.size + 1, 0, none⟩)) := hC3.c0
  have hl0 := lt_of_cell h0
  have hf03 : Fr (fun _ => False) w w3 := ((unhide H2).1.mono (fun _ _ h => h)).trans hs3.fr (fun k hk hx => by rcases hx with hx | ⟨_, hx⟩ <;> omega)
  have HD := hide (wDone_q s' (w.heap.size + 1) F3 E w3 hC3.st hC3.fok hlen)
  have H3 := hide hf03
  clear hC3 hs3 hf03
  go_wp2_with fail
  refine (unhide HD).mono ?_
  rintro e w4 ⟨v, err, rfl, hown, hE, hf4⟩
  have H4 := hide (And.intro (ownsRow_base hown (unhide H3).size) (And.intro hE ((unhide H3).trans hf4 (fun _ _ h => h))))
  clear hown hE hf4
  go_wp2_with fail
  go_ret2
  exact ⟨v, err, rfl, (unhide H4).1, (unhide H4).2.1, (unhide H4).2.2⟩
end Go.Proofs.YtcpbmphknonflaaGreatDoor

namespace Go.Proofs.YtcpbmphknonflaaGreatDoor
open Go.RowKit

/-- A reader at a thing's end. -/
def Q.fin (q : Q) : ByteArray × Nat × Nat := (q.named n_end).ended
set_option maxRecDepth 100000 in
set_option maxHeartbeats 2000000 in
/-- get. -/
theorem get_Head (x : Value) (l : List Nat) (q' : Q) (Res : World → (Nat → Prop) → Nat → Array Value → Prop) (E : Nat → Addr) (w : World) (hg : G6 w E) (hw : 9 ≤ w.heap.size) (hx : Src w x l) (hl : l.length ≤ 140737488355328)
    (hst : ∀ w2 w' F F' P g vs, Res w2 F g vs → Stp w2 w' F F' P → (∀ k j, P k j → k = w.heap.size) → Res w' F' g vs)
    (hwhole : ∀ w1 cb b F g, Cd w1 cb b F (.rd ⟨ByteArray.empty, l, 0, 0, none⟩) E → w1.cell? ⟨g, 0, none⟩ = some (.int .u32 0) → w1.cell? ⟨g, 1, none⟩ = some (.slice none 0 0) → (∀ i, Loc w1 cb F g i) → (∀ k, F k → w.heap.size < k) → w.heap.size < g → Fr (fun _ => False) w w1 → Calls Tryz.prog 74 #[.pointer (some ⟨cb, 0, none⟩), .iface 178 (.pointer (some ⟨g, 0, none⟩))] w1 fun e w' => e = .returned (.tuple #[]) ∧ ∃ F', Cd w' cb b F' (.rd q') E ∧ ∃ v0 v1, w'.cell? ⟨g, 0, none⟩ = some v0 ∧ w'.cell? ⟨g, 1, none⟩ = some v1 ∧ (∀ v ∈ ([v0, v1] : List Value), v.oneCell' = true) ∧ Res w' F' g #[v0, v1] ∧ Stp w1 w' F F' (fun k _ => k = g)) :
    Calls Tryz.prog 54 #[x] w fun e w' => ∃ vs err, e = .returned (.tuple #[.agg vs, err]) ∧ ErrV w' err q'.fin E ∧ (q'.fin.2.2 ≠ 0 → vs = #[.int .u32 0, .slice none 0 0]) ∧ (q'.fin.2.2 = 0 → ∃ F' g, Res w' F' g vs ∧ w.heap.size ≤ g) ∧ Fr (fun _ => False) w w' := by
  obtain ⟨xo, xc, rfl⟩ := hx.form
  have hbx := box1 w (.cells #[.int .u32 0, .slice none 0 0] 25)
  have HN := hide (newReader_any _ l (w.alloc (.cells #[.int .u32 0, .slice none 0 0] 25)) (by simp; omega) (hx.fr hbx (fun _ _ _ _ _ h => h)) hl)
  have H := hide (And.intro hg (And.intro hst hwhole))
  have HB := hide hbx
  clear hg hst hwhole hx hbx
  go_enter Tryz.func54, Tryz.ntmps54
  go_wp2_with fail
  refine (unhide HN).mono ?_
  rintro e w1 ⟨b, F, rfl, hR1, hf1', hF1'⟩
  have hf1 : Fr (fun _ => False) w w1 := (unhide HB).trans hf1' (fun _ _ h => h)
  have hF1 : ∀ k, F k → w.heap.size < k := fun k hk => by have := hF1' k hk; simp at this; omega
  have hr0 : w1.cell? ⟨w.heap.size, 0, none⟩ = some (.int .u32 0) := (hf1'.cell (p := ⟨w.heap.size, 0, none⟩) (by simp) (fun h => h)).trans (by simp)
  have hrz : ∀ i, w1.frozen? ⟨w.heap.size, i, none⟩ = false := fun i => (hf1'.frozen (p := ⟨w.heap.size, i, none⟩) (by simp) (fun h => h)).trans (by simp)
  have hrb : w1.heap[w.heap.size]? = some (.cells #[.int .u32 0, .slice none 0 0] 25) := (hf1'.block w.heap.size (by simp) (fun h => h)).trans (heap_alloc_new _ _)
  have hrl := lt_of_cell hr0
  clear hf1' hF1'
  have hbl := hR1.lt b hR1.fb
  have H1 := hide (And.intro hR1 (And.intro hf1 hF1))
  clear hR1 hf1 hF1
  go_wp2_with fail
  obtain ⟨W2, hW2⟩ : ∃ W2, ((w1.alloc (.cells #[.pointer none, .pointer (some ⟨b, 0, none⟩)] 144)).alloc (.cells #[.int .u32 0, .slice none 0 0] 25)).alloc (.cells #[.int .u32 0, .slice none 0 0] 25) = W2 := ⟨_, rfl⟩
  have hf12 : Fr (fun _ => False) w1 W2 := by rw [← hW2]; exact box3 _ _ _ _
  have HF12 := hide hf12
  have hf02 := (unhide H1).2.1.trans hf12 (fun _ _ h => h)
  have hsz2 : W2.heap.size = w1.heap.size + 3 := by rw [← hW2]; simp
  have hC2 : Cd W2 w1.heap.size b F (.rd ⟨ByteArray.empty, l, 0, 0, none⟩) E := by
    have hb1 := (unhide H1).1.lt
    have hw1 := (unhide H1).2.1.size
    refine ⟨(unhide H).1.fr hf02 (fun _ h => h.elim), fun hx => by have := hb1 _ hx; omega, fun k hk => by have := hb1 k hk; omega, (unhide H1).1.lo, by omega, ?_, ?_, ⟨(unhide H1).1.frame hf12 (fun _ _ h => h), ⟨Nat.zero_le _, Nat.zero_le _, fun y hy => by cases hy⟩, hl⟩, trivial⟩
    · rw [← hW2, World.cell?_alloc_past _ _ _ (by simp; omega), World.cell?_alloc_past _ _ _ (by simp), World.cell?_alloc_at _ _ _ _ (by simp)]; rfl
    · rw [← hW2, World.cell?_alloc_past _ _ _ (by simp; omega), World.cell?_alloc_past _ _ _ (by simp), World.cell?_alloc_at _ _ _ _ (by simp)]; rfl
  have hcs : ∀ (i : Nat) v, (#[.int .u32 0, .slice none 0 0] : Array Value)[i]? = some v → W2.cell? ⟨w1.heap.size + 1, i, none⟩ = some v := fun i v hv => by
    rw [← hW2, World.cell?_alloc_past _ _ _ (by simp), World.cell?_alloc_at _ _ _ _ (by simp)]; exact hv
  have hnn : ∀ (i : Nat) v, (#[.int .u32 0, .slice none 0 0] : Array Value)[i]? = some v → W2.cell? ⟨w1.heap.size + 1 + 1, i, none⟩ = some v := fun i v hv => by
    rw [← hW2, World.cell?_alloc_at _ _ _ _ (by simp)]; exact hv
  have hLo : ∀ i, Loc W2 w1.heap.size F (w1.heap.size + 1) i := fun i => by
    have hb1 := (unhide H1).1.lt
    have hw1 := (unhide H1).2.1.size
    exact ⟨(((by rw [← hW2]; exact box1 _ _) : Fr (fun _ => False) ((w1.alloc (.cells #[.pointer none, .pointer (some ⟨b, 0, none⟩)] 144)).alloc (.cells #[.int .u32 0, .slice none 0 0] 25)) W2).frozen (p := ⟨w1.heap.size + 1, i, none⟩) (by simp) (fun h => h)).trans (by simp), by omega, fun hx => by have := hb1 _ hx; omega, by omega, by omega⟩
  have HW := hide ((unhide H).2.2 W2 w1.heap.size b F (w1.heap.size + 1) hC2 (hcs 0 _ rfl) (hcs 1 _ rfl) hLo (unhide H1).2.2 (by omega) hf02)
  have H2 := hide (And.intro hf02 (And.intro hnn hsz2))
  clear hC2 hf02 hLo hsz2 hcs hf12 hnn
  rw [hW2]
  clear hW2
  refine (unhide HW).mono ?_
  rintro e w3 ⟨rfl, F3, hC3, v0, v1, hv0, hv1, hone, hRes, hs3⟩
  have hst0 : ∀ (a : Addr) (m : Mode) (W : World), (store a v0 m).run Tryz.prog W = stored Tryz.prog W a v0 m := fun _ _ _ => run_store _ _ _ _ _ (hone v0 (by simp))
  have hst1 : ∀ (a : Addr) (m : Mode) (W : World), (store a v1 m).run Tryz.prog W = stored Tryz.prog W a v1 m := fun _ _ _ => run_store _ _ _ _ _ (hone v1 (by simp))
  clear hone
  have h1 : w3.cell? ⟨w1.heap.size, 1, none⟩ = some (.pointer (some ⟨b, 0, none⟩)) := hC3.c1
  have hl1 := lt_of_cell h1
  obtain ⟨hf02, hnn, hsz2⟩ := unhide H2
  have hFb : ∀ k, F k → k < w1.heap.size := (unhide H1).1.lt
  have hne : ∀ i, w3.cell? ⟨w1.heap.size + 1 + 1, i, none⟩ = W2.cell? ⟨w1.heap.size + 1 + 1, i, none⟩ := fun i => hs3.oth (w1.heap.size + 1 + 1) i (by omega) (fun hx => by have := hFb _ hx; omega) (fun h => by omega)
  have hn0 := (hne 0).trans (hnn 0 _ rfl)
  have hn1 := (hne 1).trans (hnn 1 _ rfl)
  have hrF : ¬ F w.heap.size := fun hx => by have := (unhide H1).2.2 _ hx; omega
  have hrb3 : w3.heap[w.heap.size]? = some (.cells #[.int .u32 0, .slice none 0 0] 25) := (hs3.block (by omega) hrF (fun i h => by omega)).trans ((unhide HF12).block _ hrl (fun h => h) |>.trans hrb)
  have hf03 : Fr (fun _ => False) w w3 := hf02.trans hs3.fr (fun k hk hx => hx.elim (fun hx => by have := (unhide H1).2.2 k hx; omega) (fun ⟨_, hx⟩ => by omega))
  have hst3 : R w3 b F3 (q'.rst E) ∧ q'.ok ∧ q'.all.length ≤ 140737488355328 := hC3.st
  have HD := hide (rName_step q' n_end b F3 E w3 hst3.1)
  have H3 := hide (And.intro hC3 (And.intro hs3 (And.intro hRes (And.intro hf03 (And.intro hst3.2.1 hrF)))))
  clear hC3 hs3 hRes hf03 hst3 hrF hf02 hnn hsz2 hFb hne
  go_wp2_with fail
  refine (unhide HD).mono ?_
  rintro e w4 ⟨rfl, hR4, hch4⟩
  have hgF3 := (unhide H3).2.1.nF (by have := (unhide H2).2.2; omega) (show ¬ F (w1.heap.size + 1) from fun hx => by have := (unhide H1).1.lt _ hx; omega)
  have hnF3 := (unhide H3).2.1.nF (by have := (unhide H2).2.2; omega) (show ¬ F (w1.heap.size + 1 + 1) from fun hx => by have := (unhide H1).1.lt _ hx; omega)
  have hcF3 := (unhide H3).1.nf
  have hv04 := (hch4.fr.cell (p := ⟨w1.heap.size + 1, 0, none⟩) (lt_of_cell hv0) hgF3).trans hv0
  have hv14 := (hch4.fr.cell (p := ⟨w1.heap.size + 1, 1, none⟩) (lt_of_cell hv1) hgF3).trans hv1
  have hn04 := (hch4.fr.cell (p := ⟨w1.heap.size + 1 + 1, 0, none⟩) (lt_of_cell hn0) hnF3).trans hn0
  have hn14 := (hch4.fr.cell (p := ⟨w1.heap.size + 1 + 1, 1, none⟩) (lt_of_cell hn1) hnF3).trans hn1
  have h14 : w4.cell? ⟨w1.heap.size, 1, none⟩ = some (.pointer (some ⟨b, 0, none⟩)) := (hch4.fr.cell (p := ⟨w1.heap.size, 1, none⟩) hl1 hcF3).trans h1
  have hrb4 : w4.heap[w.heap.size]? = some (.cells #[.int .u32 0, .slice none 0 0] 25) := (hch4.fr.block w.heap.size (by omega) ((unhide H3).2.1.nF (by have := (unhide H2).2.2; omega) (unhide H3).2.2.2.2.2)).trans hrb3
  have HE := hide (done_any (q'.named n_end) b F3 E w4 hR4 (Q.named_ok (unhide H3).2.2.2.2.1 n_end) ((unhide H3).1.g7.fr hch4.fr (unhide H3).1.lo).gl)
  have hs4 : Stp w3 w4 F3 F3 (fun _ _ => False) := Stp.of_ch hch4 _
  have hf04 : Fr (fun _ => False) w w4 := (unhide H3).2.2.2.1.trans hch4.fr (fun k hk hx => by
    rcases (unhide H3).2.1.new k hx with h | h
    · have := (unhide H1).2.2 k h; omega
    · have := (unhide H1).2.1.size; have := (unhide H2).2.2; omega)
  have H4 := hide (And.intro hs4 hf04)
  clear hR4 hch4 hs4 hf04 hgF3 hnF3 hcF3
  go_wp2_with fail
  refine (unhide HE).mono ?_
  rintro e w5 ⟨err, rfl, hEr, hf5⟩
  have hrb5 : w5.heap[w.heap.size]? = some (.cells #[.int .u32 0, .slice none 0 0] 25) := (hf5.block w.heap.size (by have := (unhide H4).1.size; have := (unhide H3).2.1.size; have := (unhide H2).2.2; omega) (fun h => h)).trans hrb4
  have hv05 := (hf5.cell (p := ⟨w1.heap.size + 1, 0, none⟩) (lt_of_cell hv04) (fun h => h)).trans hv04
  have hn05 := (hf5.cell (p := ⟨w1.heap.size + 1 + 1, 0, none⟩) (lt_of_cell hn04) (fun h => h)).trans hn04
  have hv15 := (hf5.cell (p := ⟨w1.heap.size + 1, 1, none⟩) (lt_of_cell hv14) (fun h => h)).trans hv14
  have hn15 := (hf5.cell (p := ⟨w1.heap.size + 1 + 1, 1, none⟩) (lt_of_cell hn14) (fun h => h)).trans hn14
  have hr05 : w5.cell? ⟨w.heap.size, 0, none⟩ = some (.int .u32 0) := by simp [World.cell?, hrb5]
  have hr15 : w5.cell? ⟨w.heap.size, 1, none⟩ = some (.slice none 0 0) := by simp [World.cell?, hrb5]
  have hrz5 : ∀ i, w5.frozen? ⟨w.heap.size, i, none⟩ = false := fun i => by simp [World.frozen?, hrb5]
  have hrl5 := lt_of_cell hr05
  have hlv5 := lt_of_cell hv05
  have hln5 := lt_of_cell hn05
  have hnr1 : w1.heap.size + 1 ≠ w.heap.size := by omega
  have hnr2 : w1.heap.size + 1 + 1 ≠ w.heap.size := by omega
  have hsF : ∀ (i : Nat) v W, Fr (fun k => k = w.heap.size) w5 W → Fr (fun k => k = w.heap.size) w5 (W.setCell ⟨w.heap.size, i, none⟩ v) := fun i v W h => h.setCell (.inl rfl) v
  have H5 := hide (And.intro hf5 (hEr))
  rcases hEr with ⟨h0, rfl⟩ | ⟨h1', h7, fb, rfl, hb⟩
  · clear hf5
    go_wp2_with fail
    refine bodyPost_ret (v := .tuple #[.agg #[v0, v1], .nilIface]) (by simp [results, Tryz.results54, go_sem, hr05, hr15]) rfl ?_
    have hfin : q'.fin.2.2 = 0 := h0
    refine ⟨_, _, rfl, .inl ⟨hfin, rfl⟩, fun h => absurd hfin h, fun _ => ⟨F3, w1.heap.size + 1, ?_, by omega⟩, ?_⟩
    · have hR5 := (unhide H).2.1 _ _ _ _ _ _ _ ((unhide H).2.1 _ _ _ _ _ _ _ (unhide H3).2.2.1 (unhide H4).1 (fun _ _ h => h.elim)) (Stp.of_fr (unhide H5).1 F3 (fun _ _ => False)) (fun _ _ h => h.elim)
      exact (unhide H).2.1 _ _ _ _ _ _ _ hR5 (((Stp.refl w5 F3 (fun k _ => k = w.heap.size)).trans (Stp.set w.heap.size 0 _) (fun k j _ h => h.1)).trans (Stp.set w.heap.size 1 _) (fun k j _ h => h.1)) (fun k j h => h)
    · exact (((unhide H4).2.trans (unhide H5).1 (fun _ _ h => h)).setCell (.inr (Nat.le_refl _)) _).setCell (.inr (Nat.le_refl _)) _
  · have hfb : fb ≠ w.heap.size := fun e => by rw [e, hrb5] at hb; simp [faultObj] at hb
    have HB5 := hide hb
    clear hf5 hb
    go_wp2_with fail
    refine bodyPost_ret (v := .tuple #[.agg #[.int .u32 0, .slice none 0 0], .iface 85 (.pointer (some ⟨fb, 0, none⟩))]) (by simp [results, Tryz.results54, go_sem, hr05, hr15]) rfl ?_
    have hfin : q'.fin.2.2 ≠ 0 := fun e => by have : 1 ≤ q'.fin.2.2 := h1'; omega
    refine ⟨_, _, rfl, .inr ⟨h1', h7, fb, rfl, ?_⟩, fun _ => rfl, fun h => absurd h hfin, ?_⟩
    · rw [Below.heap_setCell _ _ _ _ hfb, Below.heap_setCell _ _ _ _ hfb]
      exact unhide HB5
    · exact (((unhide H4).2.trans (unhide H5).1 (fun _ _ h => h)).setCell (.inr (Nat.le_refl _)) _).setCell (.inr (Nat.le_refl _)) _
set_option maxRecDepth 100000 in
set_option maxHeartbeats 2000000 in
/-- get. -/
theorem get_Signed (x : Value) (l : List Nat) (q' : Q) (Res : World → (Nat → Prop) → Nat → Array Value → Prop) (E : Nat → Addr) (w : World) (hg : G6 w E) (hw : 9 ≤ w.heap.size) (hx : Src w x l) (hl : l.length ≤ 140737488355328)
    (hst : ∀ w2 w' F F' P g vs, Res w2 F g vs → Stp w2 w' F F' P → (∀ k j, P k j → k = w.heap.size) → Res w' F' g vs)
    (hwhole : ∀ w1 cb b F g, Cd w1 cb b F (.rd ⟨ByteArray.empty, l, 0, 0, none⟩) E → w1.cell? ⟨g, 0, none⟩ = some (.int .u32 0) → w1.cell? ⟨g, 1, none⟩ = some (.slice none 0 0) → w1.cell? ⟨g, 2, none⟩ = some (.int .u32 0) → w1.cell? ⟨g, 3, none⟩ = some (.slice none 0 0) → (∀ i, Loc w1 cb F g i) → (∀ k, F k → w.heap.size < k) → w.heap.size < g → Fr (fun _ => False) w w1 → Calls Tryz.prog 74 #[.pointer (some ⟨cb, 0, none⟩), .iface 177 (.pointer (some ⟨g, 0, none⟩))] w1 fun e w' => e = .returned (.tuple #[]) ∧ ∃ F', Cd w' cb b F' (.rd q') E ∧ ∃ v0 v1 v2 v3, w'.cell? ⟨g, 0, none⟩ = some v0 ∧ w'.cell? ⟨g, 1, none⟩ = some v1 ∧ w'.cell? ⟨g, 2, none⟩ = some v2 ∧ w'.cell? ⟨g, 3, none⟩ = some v3 ∧ (∀ v ∈ ([v0, v1, v2, v3] : List Value), v.oneCell' = true) ∧ Res w' F' g #[v0, v1, v2, v3] ∧ Stp w1 w' F F' (fun k _ => k = g)) :
    Calls Tryz.prog 52 #[x] w fun e w' => ∃ vs err, e = .returned (.tuple #[.agg vs, err]) ∧ ErrV w' err q'.fin E ∧ (q'.fin.2.2 ≠ 0 → vs = #[.int .u32 0, .slice none 0 0, .int .u32 0, .slice none 0 0]) ∧ (q'.fin.2.2 = 0 → ∃ F' g, Res w' F' g vs ∧ w.heap.size ≤ g) ∧ Fr (fun _ => False) w w' := by
  obtain ⟨xo, xc, rfl⟩ := hx.form
  have hbx := box1 w (.cells #[.int .u32 0, .slice none 0 0, .int .u32 0, .slice none 0 0] 37)
  have HN := hide (newReader_any _ l (w.alloc (.cells #[.int .u32 0, .slice none 0 0, .int .u32 0, .slice none 0 0] 37)) (by simp; omega) (hx.fr hbx (fun _ _ _ _ _ h => h)) hl)
  have H := hide (And.intro hg (And.intro hst hwhole))
  have HB := hide hbx
  clear hg hst hwhole hx hbx
  go_enter Tryz.func52, Tryz.ntmps52
  go_wp2_with fail
  refine (unhide HN).mono ?_
  rintro e w1 ⟨b, F, rfl, hR1, hf1', hF1'⟩
  have hf1 : Fr (fun _ => False) w w1 := (unhide HB).trans hf1' (fun _ _ h => h)
  have hF1 : ∀ k, F k → w.heap.size < k := fun k hk => by have := hF1' k hk; simp at this; omega
  have hr0 : w1.cell? ⟨w.heap.size, 0, none⟩ = some (.int .u32 0) := (hf1'.cell (p := ⟨w.heap.size, 0, none⟩) (by simp) (fun h => h)).trans (by simp)
  have hrz : ∀ i, w1.frozen? ⟨w.heap.size, i, none⟩ = false := fun i => (hf1'.frozen (p := ⟨w.heap.size, i, none⟩) (by simp) (fun h => h)).trans (by simp)
  have hrb : w1.heap[w.heap.size]? = some (.cells #[.int .u32 0, .slice none 0 0, .int .u32 0, .slice none 0 0] 37) := (hf1'.block w.heap.size (by simp) (fun h => h)).trans (heap_alloc_new _ _)
  have hrl := lt_of_cell hr0
  clear hf1' hF1'
  have hbl := hR1.lt b hR1.fb
  have H1 := hide (And.intro hR1 (And.intro hf1 hF1))
  clear hR1 hf1 hF1
  go_wp2_with fail
  obtain ⟨W2, hW2⟩ : ∃ W2, ((w1.alloc (.cells #[.pointer none, .pointer (some ⟨b, 0, none⟩)] 144)).alloc (.cells #[.int .u32 0, .slice none 0 0, .int .u32 0, .slice none 0 0] 37)).alloc (.cells #[.int .u32 0, .slice none 0 0, .int .u32 0, .slice none 0 0] 37) = W2 := ⟨_, rfl⟩
  have hf12 : Fr (fun _ => False) w1 W2 := by rw [← hW2]; exact box3 _ _ _ _
  have HF12 := hide hf12
  have hf02 := (unhide H1).2.1.trans hf12 (fun _ _ h => h)
  have hsz2 : W2.heap.size = w1.heap.size + 3 := by rw [← hW2]; simp
  have hC2 : Cd W2 w1.heap.size b F (.rd ⟨ByteArray.empty, l, 0, 0, none⟩) E := by
    have hb1 := (unhide H1).1.lt
    have hw1 := (unhide H1).2.1.size
    refine ⟨(unhide H).1.fr hf02 (fun _ h => h.elim), fun hx => by have := hb1 _ hx; omega, fun k hk => by have := hb1 k hk; omega, (unhide H1).1.lo, by omega, ?_, ?_, ⟨(unhide H1).1.frame hf12 (fun _ _ h => h), ⟨Nat.zero_le _, Nat.zero_le _, fun y hy => by cases hy⟩, hl⟩, trivial⟩
    · rw [← hW2, World.cell?_alloc_past _ _ _ (by simp; omega), World.cell?_alloc_past _ _ _ (by simp), World.cell?_alloc_at _ _ _ _ (by simp)]; rfl
    · rw [← hW2, World.cell?_alloc_past _ _ _ (by simp; omega), World.cell?_alloc_past _ _ _ (by simp), World.cell?_alloc_at _ _ _ _ (by simp)]; rfl
  have hcs : ∀ (i : Nat) v, (#[.int .u32 0, .slice none 0 0, .int .u32 0, .slice none 0 0] : Array Value)[i]? = some v → W2.cell? ⟨w1.heap.size + 1, i, none⟩ = some v := fun i v hv => by
    rw [← hW2, World.cell?_alloc_past _ _ _ (by simp), World.cell?_alloc_at _ _ _ _ (by simp)]; exact hv
  have hnn : ∀ (i : Nat) v, (#[.int .u32 0, .slice none 0 0, .int .u32 0, .slice none 0 0] : Array Value)[i]? = some v → W2.cell? ⟨w1.heap.size + 1 + 1, i, none⟩ = some v := fun i v hv => by
    rw [← hW2, World.cell?_alloc_at _ _ _ _ (by simp)]; exact hv
  have hLo : ∀ i, Loc W2 w1.heap.size F (w1.heap.size + 1) i := fun i => by
    have hb1 := (unhide H1).1.lt
    have hw1 := (unhide H1).2.1.size
    exact ⟨(((by rw [← hW2]; exact box1 _ _) : Fr (fun _ => False) ((w1.alloc (.cells #[.pointer none, .pointer (some ⟨b, 0, none⟩)] 144)).alloc (.cells #[.int .u32 0, .slice none 0 0, .int .u32 0, .slice none 0 0] 37)) W2).frozen (p := ⟨w1.heap.size + 1, i, none⟩) (by simp) (fun h => h)).trans (by simp), by omega, fun hx => by have := hb1 _ hx; omega, by omega, by omega⟩
  have HW := hide ((unhide H).2.2 W2 w1.heap.size b F (w1.heap.size + 1) hC2 (hcs 0 _ rfl) (hcs 1 _ rfl) (hcs 2 _ rfl) (hcs 3 _ rfl) hLo (unhide H1).2.2 (by omega) hf02)
  have H2 := hide (And.intro hf02 (And.intro hnn hsz2))
  clear hC2 hf02 hLo hsz2 hcs hf12 hnn
  rw [hW2]
  clear hW2
  refine (unhide HW).mono ?_
  rintro e w3 ⟨rfl, F3, hC3, v0, v1, v2, v3, hv0, hv1, hv2, hv3, hone, hRes, hs3⟩
  have hst0 : ∀ (a : Addr) (m : Mode) (W : World), (store a v0 m).run Tryz.prog W = stored Tryz.prog W a v0 m := fun _ _ _ => run_store _ _ _ _ _ (hone v0 (by simp))
  have hst1 : ∀ (a : Addr) (m : Mode) (W : World), (store a v1 m).run Tryz.prog W = stored Tryz.prog W a v1 m := fun _ _ _ => run_store _ _ _ _ _ (hone v1 (by simp))
  have hst2 : ∀ (a : Addr) (m : Mode) (W : World), (store a v2 m).run Tryz.prog W = stored Tryz.prog W a v2 m := fun _ _ _ => run_store _ _ _ _ _ (hone v2 (by simp))
  have hst3 : ∀ (a : Addr) (m : Mode) (W : World), (store a v3 m).run Tryz.prog W = stored Tryz.prog W a v3 m := fun _ _ _ => run_store _ _ _ _ _ (hone v3 (by simp))
  clear hone
  have h1 : w3.cell? ⟨w1.heap.size, 1, none⟩ = some (.pointer (some ⟨b, 0, none⟩)) := hC3.c1
  have hl1 := lt_of_cell h1
  obtain ⟨hf02, hnn, hsz2⟩ := unhide H2
  have hFb : ∀ k, F k → k < w1.heap.size := (unhide H1).1.lt
  have hne : ∀ i, w3.cell? ⟨w1.heap.size + 1 + 1, i, none⟩ = W2.cell? ⟨w1.heap.size + 1 + 1, i, none⟩ := fun i => hs3.oth (w1.heap.size + 1 + 1) i (by omega) (fun hx => by have := hFb _ hx; omega) (fun h => by omega)
  have hn0 := (hne 0).trans (hnn 0 _ rfl)
  have hn1 := (hne 1).trans (hnn 1 _ rfl)
  have hn2 := (hne 2).trans (hnn 2 _ rfl)
  have hn3 := (hne 3).trans (hnn 3 _ rfl)
  have hrF : ¬ F w.heap.size := fun hx => by have := (unhide H1).2.2 _ hx; omega
  have hrb3 : w3.heap[w.heap.size]? = some (.cells #[.int .u32 0, .slice none 0 0, .int .u32 0, .slice none 0 0] 37) := (hs3.block (by omega) hrF (fun i h => by omega)).trans ((unhide HF12).block _ hrl (fun h => h) |>.trans hrb)
  have hf03 : Fr (fun _ => False) w w3 := hf02.trans hs3.fr (fun k hk hx => hx.elim (fun hx => by have := (unhide H1).2.2 k hx; omega) (fun ⟨_, hx⟩ => by omega))
  have hst3 : R w3 b F3 (q'.rst E) ∧ q'.ok ∧ q'.all.length ≤ 140737488355328 := hC3.st
  have HD := hide (rName_step q' n_end b F3 E w3 hst3.1)
  have H3 := hide (And.intro hC3 (And.intro hs3 (And.intro hRes (And.intro hf03 (And.intro hst3.2.1 hrF)))))
  clear hC3 hs3 hRes hf03 hst3 hrF hf02 hnn hsz2 hFb hne
  go_wp2_with fail
  refine (unhide HD).mono ?_
  rintro e w4 ⟨rfl, hR4, hch4⟩
  have hgF3 := (unhide H3).2.1.nF (by have := (unhide H2).2.2; omega) (show ¬ F (w1.heap.size + 1) from fun hx => by have := (unhide H1).1.lt _ hx; omega)
  have hnF3 := (unhide H3).2.1.nF (by have := (unhide H2).2.2; omega) (show ¬ F (w1.heap.size + 1 + 1) from fun hx => by have := (unhide H1).1.lt _ hx; omega)
  have hcF3 := (unhide H3).1.nf
  have hv04 := (hch4.fr.cell (p := ⟨w1.heap.size + 1, 0, none⟩) (lt_of_cell hv0) hgF3).trans hv0
  have hv14 := (hch4.fr.cell (p := ⟨w1.heap.size + 1, 1, none⟩) (lt_of_cell hv1) hgF3).trans hv1
  have hv24 := (hch4.fr.cell (p := ⟨w1.heap.size + 1, 2, none⟩) (lt_of_cell hv2) hgF3).trans hv2
  have hv34 := (hch4.fr.cell (p := ⟨w1.heap.size + 1, 3, none⟩) (lt_of_cell hv3) hgF3).trans hv3
  have hn04 := (hch4.fr.cell (p := ⟨w1.heap.size + 1 + 1, 0, none⟩) (lt_of_cell hn0) hnF3).trans hn0
  have hn14 := (hch4.fr.cell (p := ⟨w1.heap.size + 1 + 1, 1, none⟩) (lt_of_cell hn1) hnF3).trans hn1
  have hn24 := (hch4.fr.cell (p := ⟨w1.heap.size + 1 + 1, 2, none⟩) (lt_of_cell hn2) hnF3).trans hn2
  have hn34 := (hch4.fr.cell (p := ⟨w1.heap.size + 1 + 1, 3, none⟩) (lt_of_cell hn3) hnF3).trans hn3
  have h14 : w4.cell? ⟨w1.heap.size, 1, none⟩ = some (.pointer (some ⟨b, 0, none⟩)) := (hch4.fr.cell (p := ⟨w1.heap.size, 1, none⟩) hl1 hcF3).trans h1
  have hrb4 : w4.heap[w.heap.size]? = some (.cells #[.int .u32 0, .slice none 0 0, .int .u32 0, .slice none 0 0] 37) := (hch4.fr.block w.heap.size (by omega) ((unhide H3).2.1.nF (by have := (unhide H2).2.2; omega) (unhide H3).2.2.2.2.2)).trans hrb3
  have HE := hide (done_any (q'.named n_end) b F3 E w4 hR4 (Q.named_ok (unhide H3).2.2.2.2.1 n_end) ((unhide H3).1.g7.fr hch4.fr (unhide H3).1.lo).gl)
  have hs4 : Stp w3 w4 F3 F3 (fun _ _ => False) := Stp.of_ch hch4 _
  have hf04 : Fr (fun _ => False) w w4 := (unhide H3).2.2.2.1.trans hch4.fr (fun k hk hx => by
    rcases (unhide H3).2.1.new k hx with h | h
    · have := (unhide H1).2.2 k h; omega
    · have := (unhide H1).2.1.size; have := (unhide H2).2.2; omega)
  have H4 := hide (And.intro hs4 hf04)
  clear hR4 hch4 hs4 hf04 hgF3 hnF3 hcF3
  go_wp2_with fail
  refine (unhide HE).mono ?_
  rintro e w5 ⟨err, rfl, hEr, hf5⟩
  have hrb5 : w5.heap[w.heap.size]? = some (.cells #[.int .u32 0, .slice none 0 0, .int .u32 0, .slice none 0 0] 37) := (hf5.block w.heap.size (by have := (unhide H4).1.size; have := (unhide H3).2.1.size; have := (unhide H2).2.2; omega) (fun h => h)).trans hrb4
  have hv05 := (hf5.cell (p := ⟨w1.heap.size + 1, 0, none⟩) (lt_of_cell hv04) (fun h => h)).trans hv04
  have hn05 := (hf5.cell (p := ⟨w1.heap.size + 1 + 1, 0, none⟩) (lt_of_cell hn04) (fun h => h)).trans hn04
  have hv15 := (hf5.cell (p := ⟨w1.heap.size + 1, 1, none⟩) (lt_of_cell hv14) (fun h => h)).trans hv14
  have hn15 := (hf5.cell (p := ⟨w1.heap.size + 1 + 1, 1, none⟩) (lt_of_cell hn14) (fun h => h)).trans hn14
  have hv25 := (hf5.cell (p := ⟨w1.heap.size + 1, 2, none⟩) (lt_of_cell hv24) (fun h => h)).trans hv24
  have hn25 := (hf5.cell (p := ⟨w1.heap.size + 1 + 1, 2, none⟩) (lt_of_cell hn24) (fun h => h)).trans hn24
  have hv35 := (hf5.cell (p := ⟨w1.heap.size + 1, 3, none⟩) (lt_of_cell hv34) (fun h => h)).trans hv34
  have hn35 := (hf5.cell (p := ⟨w1.heap.size + 1 + 1, 3, none⟩) (lt_of_cell hn34) (fun h => h)).trans hn34
  have hr05 : w5.cell? ⟨w.heap.size, 0, none⟩ = some (.int .u32 0) := by simp [World.cell?, hrb5]
  have hr15 : w5.cell? ⟨w.heap.size, 1, none⟩ = some (.slice none 0 0) := by simp [World.cell?, hrb5]
  have hr25 : w5.cell? ⟨w.heap.size, 2, none⟩ = some (.int .u32 0) := by simp [World.cell?, hrb5]
  have hr35 : w5.cell? ⟨w.heap.size, 3, none⟩ = some (.slice none 0 0) := by simp [World.cell?, hrb5]
  have hrz5 : ∀ i, w5.frozen? ⟨w.heap.size, i, none⟩ = false := fun i => by simp [World.frozen?, hrb5]
  have hrl5 := lt_of_cell hr05
  have hlv5 := lt_of_cell hv05
  have hln5 := lt_of_cell hn05
  have hnr1 : w1.heap.size + 1 ≠ w.heap.size := by omega
  have hnr2 : w1.heap.size + 1 + 1 ≠ w.heap.size := by omega
  have hsF : ∀ (i : Nat) v W, Fr (fun k => k = w.heap.size) w5 W → Fr (fun k => k = w.heap.size) w5 (W.setCell ⟨w.heap.size, i, none⟩ v) := fun i v W h => h.setCell (.inl rfl) v
  have H5 := hide (And.intro hf5 (hEr))
  rcases hEr with ⟨h0, rfl⟩ | ⟨h1', h7, fb, rfl, hb⟩
  · clear hf5
    go_wp2_with fail
    refine bodyPost_ret (v := .tuple #[.agg #[v0, v1, v2, v3], .nilIface]) (by simp [results, Tryz.results52, go_sem, hr05, hr15, hr25, hr35]) rfl ?_
    have hfin : q'.fin.2.2 = 0 := h0
    refine ⟨_, _, rfl, .inl ⟨hfin, rfl⟩, fun h => absurd hfin h, fun _ => ⟨F3, w1.heap.size + 1, ?_, by omega⟩, ?_⟩
    · have hR5 := (unhide H).2.1 _ _ _ _ _ _ _ ((unhide H).2.1 _ _ _ _ _ _ _ (unhide H3).2.2.1 (unhide H4).1 (fun _ _ h => h.elim)) (Stp.of_fr (unhide H5).1 F3 (fun _ _ => False)) (fun _ _ h => h.elim)
      exact (unhide H).2.1 _ _ _ _ _ _ _ hR5 (((((Stp.refl w5 F3 (fun k _ => k = w.heap.size)).trans (Stp.set w.heap.size 0 _) (fun k j _ h => h.1)).trans (Stp.set w.heap.size 1 _) (fun k j _ h => h.1)).trans (Stp.set w.heap.size 2 _) (fun k j _ h => h.1)).trans (Stp.set w.heap.size 3 _) (fun k j _ h => h.1)) (fun k j h => h)
    · exact (((((unhide H4).2.trans (unhide H5).1 (fun _ _ h => h)).setCell (.inr (Nat.le_refl _)) _).setCell (.inr (Nat.le_refl _)) _).setCell (.inr (Nat.le_refl _)) _).setCell (.inr (Nat.le_refl _)) _
  · have hfb : fb ≠ w.heap.size := fun e => by rw [e, hrb5] at hb; simp [faultObj] at hb
    have HB5 := hide hb
    clear hf5 hb
    go_wp2_with fail
    refine bodyPost_ret (v := .tuple #[.agg #[.int .u32 0, .slice none 0 0, .int .u32 0, .slice none 0 0], .iface 85 (.pointer (some ⟨fb, 0, none⟩))]) (by simp [results, Tryz.results52, go_sem, hr05, hr15, hr25, hr35]) rfl ?_
    have hfin : q'.fin.2.2 ≠ 0 := fun e => by have : 1 ≤ q'.fin.2.2 := h1'; omega
    refine ⟨_, _, rfl, .inr ⟨h1', h7, fb, rfl, ?_⟩, fun _ => rfl, fun h => absurd h hfin, ?_⟩
    · rw [Below.heap_setCell _ _ _ _ hfb, Below.heap_setCell _ _ _ _ hfb, Below.heap_setCell _ _ _ _ hfb, Below.heap_setCell _ _ _ _ hfb]
      exact unhide HB5
    · exact (((((unhide H4).2.trans (unhide H5).1 (fun _ _ h => h)).setCell (.inr (Nat.le_refl _)) _).setCell (.inr (Nat.le_refl _)) _).setCell (.inr (Nat.le_refl _)) _).setCell (.inr (Nat.le_refl _)) _
set_option maxRecDepth 100000 in
set_option maxHeartbeats 2000000 in
/-- get. -/
theorem get_Proof (x : Value) (l : List Nat) (q' : Q) (Res : World → (Nat → Prop) → Nat → Array Value → Prop) (E : Nat → Addr) (w : World) (hg : G6 w E) (hw : 9 ≤ w.heap.size) (hx : Src w x l) (hl : l.length ≤ 140737488355328)
    (hst : ∀ w2 w' F F' P g vs, Res w2 F g vs → Stp w2 w' F F' P → (∀ k j, P k j → k = w.heap.size) → Res w' F' g vs)
    (hwhole : ∀ w1 cb b F g, Cd w1 cb b F (.rd ⟨ByteArray.empty, l, 0, 0, none⟩) E → w1.cell? ⟨g, 0, none⟩ = some (.slice none 0 0) → (∀ i, Loc w1 cb F g i) → (∀ k, F k → w.heap.size < k) → w.heap.size < g → Fr (fun _ => False) w w1 → Calls Tryz.prog 74 #[.pointer (some ⟨cb, 0, none⟩), .iface 174 (.pointer (some ⟨g, 0, none⟩))] w1 fun e w' => e = .returned (.tuple #[]) ∧ ∃ F', Cd w' cb b F' (.rd q') E ∧ ∃ v0, w'.cell? ⟨g, 0, none⟩ = some v0 ∧ (∀ v ∈ ([v0] : List Value), v.oneCell' = true) ∧ Res w' F' g #[v0] ∧ Stp w1 w' F F' (fun k _ => k = g)) :
    Calls Tryz.prog 50 #[x] w fun e w' => ∃ vs err, e = .returned (.tuple #[.agg vs, err]) ∧ ErrV w' err q'.fin E ∧ (q'.fin.2.2 ≠ 0 → vs = #[.slice none 0 0]) ∧ (q'.fin.2.2 = 0 → ∃ F' g, Res w' F' g vs ∧ w.heap.size ≤ g) ∧ Fr (fun _ => False) w w' := by
  obtain ⟨xo, xc, rfl⟩ := hx.form
  have hbx := box1 w (.cells #[.slice none 0 0] 40)
  have HN := hide (newReader_any _ l (w.alloc (.cells #[.slice none 0 0] 40)) (by simp; omega) (hx.fr hbx (fun _ _ _ _ _ h => h)) hl)
  have H := hide (And.intro hg (And.intro hst hwhole))
  have HB := hide hbx
  clear hg hst hwhole hx hbx
  go_enter Tryz.func50, Tryz.ntmps50
  go_wp2_with fail
  refine (unhide HN).mono ?_
  rintro e w1 ⟨b, F, rfl, hR1, hf1', hF1'⟩
  have hf1 : Fr (fun _ => False) w w1 := (unhide HB).trans hf1' (fun _ _ h => h)
  have hF1 : ∀ k, F k → w.heap.size < k := fun k hk => by have := hF1' k hk; simp at this; omega
  have hr0 : w1.cell? ⟨w.heap.size, 0, none⟩ = some (.slice none 0 0) := (hf1'.cell (p := ⟨w.heap.size, 0, none⟩) (by simp) (fun h => h)).trans (by simp)
  have hrz : ∀ i, w1.frozen? ⟨w.heap.size, i, none⟩ = false := fun i => (hf1'.frozen (p := ⟨w.heap.size, i, none⟩) (by simp) (fun h => h)).trans (by simp)
  have hrb : w1.heap[w.heap.size]? = some (.cells #[.slice none 0 0] 40) := (hf1'.block w.heap.size (by simp) (fun h => h)).trans (heap_alloc_new _ _)
  have hrl := lt_of_cell hr0
  clear hf1' hF1'
  have hbl := hR1.lt b hR1.fb
  have H1 := hide (And.intro hR1 (And.intro hf1 hF1))
  clear hR1 hf1 hF1
  go_wp2_with fail
  obtain ⟨W2, hW2⟩ : ∃ W2, ((w1.alloc (.cells #[.pointer none, .pointer (some ⟨b, 0, none⟩)] 144)).alloc (.cells #[.slice none 0 0] 40)).alloc (.cells #[.slice none 0 0] 40) = W2 := ⟨_, rfl⟩
  have hf12 : Fr (fun _ => False) w1 W2 := by rw [← hW2]; exact box3 _ _ _ _
  have HF12 := hide hf12
  have hf02 := (unhide H1).2.1.trans hf12 (fun _ _ h => h)
  have hsz2 : W2.heap.size = w1.heap.size + 3 := by rw [← hW2]; simp
  have hC2 : Cd W2 w1.heap.size b F (.rd ⟨ByteArray.empty, l, 0, 0, none⟩) E := by
    have hb1 := (unhide H1).1.lt
    have hw1 := (unhide H1).2.1.size
    refine ⟨(unhide H).1.fr hf02 (fun _ h => h.elim), fun hx => by have := hb1 _ hx; omega, fun k hk => by have := hb1 k hk; omega, (unhide H1).1.lo, by omega, ?_, ?_, ⟨(unhide H1).1.frame hf12 (fun _ _ h => h), ⟨Nat.zero_le _, Nat.zero_le _, fun y hy => by cases hy⟩, hl⟩, trivial⟩
    · rw [← hW2, World.cell?_alloc_past _ _ _ (by simp; omega), World.cell?_alloc_past _ _ _ (by simp), World.cell?_alloc_at _ _ _ _ (by simp)]; rfl
    · rw [← hW2, World.cell?_alloc_past _ _ _ (by simp; omega), World.cell?_alloc_past _ _ _ (by simp), World.cell?_alloc_at _ _ _ _ (by simp)]; rfl
  have hcs : ∀ (i : Nat) v, (#[.slice none 0 0] : Array Value)[i]? = some v → W2.cell? ⟨w1.heap.size + 1, i, none⟩ = some v := fun i v hv => by
    rw [← hW2, World.cell?_alloc_past _ _ _ (by simp), World.cell?_alloc_at _ _ _ _ (by simp)]; exact hv
  have hnn : ∀ (i : Nat) v, (#[.slice none 0 0] : Array Value)[i]? = some v → W2.cell? ⟨w1.heap.size + 1 + 1, i, none⟩ = some v := fun i v hv => by
    rw [← hW2, World.cell?_alloc_at _ _ _ _ (by simp)]; exact hv
  have hLo : ∀ i, Loc W2 w1.heap.size F (w1.heap.size + 1) i := fun i => by
    have hb1 := (unhide H1).1.lt
    have hw1 := (unhide H1).2.1.size
    exact ⟨(((by rw [← hW2]; exact box1 _ _) : Fr (fun _ => False) ((w1.alloc (.cells #[.pointer none, .pointer (some ⟨b, 0, none⟩)] 144)).alloc (.cells #[.slice none 0 0] 40)) W2).frozen (p := ⟨w1.heap.size + 1, i, none⟩) (by simp) (fun h => h)).trans (by simp), by omega, fun hx => by have := hb1 _ hx; omega, by omega, by omega⟩
  have HW := hide ((unhide H).2.2 W2 w1.heap.size b F (w1.heap.size + 1) hC2 (hcs 0 _ rfl) hLo (unhide H1).2.2 (by omega) hf02)
  have H2 := hide (And.intro hf02 (And.intro hnn hsz2))
  clear hC2 hf02 hLo hsz2 hcs hf12 hnn
  rw [hW2]
  clear hW2
  refine (unhide HW).mono ?_
  rintro e w3 ⟨rfl, F3, hC3, v0, hv0, hone, hRes, hs3⟩
  have hst0 : ∀ (a : Addr) (m : Mode) (W : World), (store a v0 m).run Tryz.prog W = stored Tryz.prog W a v0 m := fun _ _ _ => run_store _ _ _ _ _ (hone v0 (by simp))
  clear hone
  have h1 : w3.cell? ⟨w1.heap.size, 1, none⟩ = some (.pointer (some ⟨b, 0, none⟩)) := hC3.c1
  have hl1 := lt_of_cell h1
  obtain ⟨hf02, hnn, hsz2⟩ := unhide H2
  have hFb : ∀ k, F k → k < w1.heap.size := (unhide H1).1.lt
  have hne : ∀ i, w3.cell? ⟨w1.heap.size + 1 + 1, i, none⟩ = W2.cell? ⟨w1.heap.size + 1 + 1, i, none⟩ := fun i => hs3.oth (w1.heap.size + 1 + 1) i (by omega) (fun hx => by have := hFb _ hx; omega) (fun h => by omega)
  have hn0 := (hne 0).trans (hnn 0 _ rfl)
  have hrF : ¬ F w.heap.size := fun hx => by have := (unhide H1).2.2 _ hx; omega
  have hrb3 : w3.heap[w.heap.size]? = some (.cells #[.slice none 0 0] 40) := (hs3.block (by omega) hrF (fun i h => by omega)).trans ((unhide HF12).block _ hrl (fun h => h) |>.trans hrb)
  have hf03 : Fr (fun _ => False) w w3 := hf02.trans hs3.fr (fun k hk hx => hx.elim (fun hx => by have := (unhide H1).2.2 k hx; omega) (fun ⟨_, hx⟩ => by omega))
  have hst3 : R w3 b F3 (q'.rst E) ∧ q'.ok ∧ q'.all.length ≤ 140737488355328 := hC3.st
  have HD := hide (rName_step q' n_end b F3 E w3 hst3.1)
  have H3 := hide (And.intro hC3 (And.intro hs3 (And.intro hRes (And.intro hf03 (And.intro hst3.2.1 hrF)))))
  clear hC3 hs3 hRes hf03 hst3 hrF hf02 hnn hsz2 hFb hne
  go_wp2_with fail
  refine (unhide HD).mono ?_
  rintro e w4 ⟨rfl, hR4, hch4⟩
  have hgF3 := (unhide H3).2.1.nF (by have := (unhide H2).2.2; omega) (show ¬ F (w1.heap.size + 1) from fun hx => by have := (unhide H1).1.lt _ hx; omega)
  have hnF3 := (unhide H3).2.1.nF (by have := (unhide H2).2.2; omega) (show ¬ F (w1.heap.size + 1 + 1) from fun hx => by have := (unhide H1).1.lt _ hx; omega)
  have hcF3 := (unhide H3).1.nf
  have hv04 := (hch4.fr.cell (p := ⟨w1.heap.size + 1, 0, none⟩) (lt_of_cell hv0) hgF3).trans hv0
  have hn04 := (hch4.fr.cell (p := ⟨w1.heap.size + 1 + 1, 0, none⟩) (lt_of_cell hn0) hnF3).trans hn0
  have h14 : w4.cell? ⟨w1.heap.size, 1, none⟩ = some (.pointer (some ⟨b, 0, none⟩)) := (hch4.fr.cell (p := ⟨w1.heap.size, 1, none⟩) hl1 hcF3).trans h1
  have hrb4 : w4.heap[w.heap.size]? = some (.cells #[.slice none 0 0] 40) := (hch4.fr.block w.heap.size (by omega) ((unhide H3).2.1.nF (by have := (unhide H2).2.2; omega) (unhide H3).2.2.2.2.2)).trans hrb3
  have HE := hide (done_any (q'.named n_end) b F3 E w4 hR4 (Q.named_ok (unhide H3).2.2.2.2.1 n_end) ((unhide H3).1.g7.fr hch4.fr (unhide H3).1.lo).gl)
  have hs4 : Stp w3 w4 F3 F3 (fun _ _ => False) := Stp.of_ch hch4 _
  have hf04 : Fr (fun _ => False) w w4 := (unhide H3).2.2.2.1.trans hch4.fr (fun k hk hx => by
    rcases (unhide H3).2.1.new k hx with h | h
    · have := (unhide H1).2.2 k h; omega
    · have := (unhide H1).2.1.size; have := (unhide H2).2.2; omega)
  have H4 := hide (And.intro hs4 hf04)
  clear hR4 hch4 hs4 hf04 hgF3 hnF3 hcF3
  go_wp2_with fail
  refine (unhide HE).mono ?_
  rintro e w5 ⟨err, rfl, hEr, hf5⟩
  have hrb5 : w5.heap[w.heap.size]? = some (.cells #[.slice none 0 0] 40) := (hf5.block w.heap.size (by have := (unhide H4).1.size; have := (unhide H3).2.1.size; have := (unhide H2).2.2; omega) (fun h => h)).trans hrb4
  have hv05 := (hf5.cell (p := ⟨w1.heap.size + 1, 0, none⟩) (lt_of_cell hv04) (fun h => h)).trans hv04
  have hn05 := (hf5.cell (p := ⟨w1.heap.size + 1 + 1, 0, none⟩) (lt_of_cell hn04) (fun h => h)).trans hn04
  have hr05 : w5.cell? ⟨w.heap.size, 0, none⟩ = some (.slice none 0 0) := by simp [World.cell?, hrb5]
  have hrz5 : ∀ i, w5.frozen? ⟨w.heap.size, i, none⟩ = false := fun i => by simp [World.frozen?, hrb5]
  have hrl5 := lt_of_cell hr05
  have hlv5 := lt_of_cell hv05
  have hln5 := lt_of_cell hn05
  have hnr1 : w1.heap.size + 1 ≠ w.heap.size := by omega
  have hnr2 : w1.heap.size + 1 + 1 ≠ w.heap.size := by omega
  have hsF : ∀ (i : Nat) v W, Fr (fun k => k = w.heap.size) w5 W → Fr (fun k => k = w.heap.size) w5 (W.setCell ⟨w.heap.size, i, none⟩ v) := fun i v W h => h.setCell (.inl rfl) v
  have H5 := hide (And.intro hf5 (hEr))
  rcases hEr with ⟨h0, rfl⟩ | ⟨h1', h7, fb, rfl, hb⟩
  · clear hf5
    go_wp2_with fail
    refine bodyPost_ret (v := .tuple #[.agg #[v0], .nilIface]) (by simp [results, Tryz.results50, go_sem, hr05]) rfl ?_
    have hfin : q'.fin.2.2 = 0 := h0
    refine ⟨_, _, rfl, .inl ⟨hfin, rfl⟩, fun h => absurd hfin h, fun _ => ⟨F3, w1.heap.size + 1, ?_, by omega⟩, ?_⟩
    · have hR5 := (unhide H).2.1 _ _ _ _ _ _ _ ((unhide H).2.1 _ _ _ _ _ _ _ (unhide H3).2.2.1 (unhide H4).1 (fun _ _ h => h.elim)) (Stp.of_fr (unhide H5).1 F3 (fun _ _ => False)) (fun _ _ h => h.elim)
      exact (unhide H).2.1 _ _ _ _ _ _ _ hR5 ((Stp.refl w5 F3 (fun k _ => k = w.heap.size)).trans (Stp.set w.heap.size 0 _) (fun k j _ h => h.1)) (fun k j h => h)
    · exact ((unhide H4).2.trans (unhide H5).1 (fun _ _ h => h)).setCell (.inr (Nat.le_refl _)) _
  · have hfb : fb ≠ w.heap.size := fun e => by rw [e, hrb5] at hb; simp [faultObj] at hb
    have HB5 := hide hb
    clear hf5 hb
    go_wp2_with fail
    refine bodyPost_ret (v := .tuple #[.agg #[.slice none 0 0], .iface 85 (.pointer (some ⟨fb, 0, none⟩))]) (by simp [results, Tryz.results50, go_sem, hr05]) rfl ?_
    have hfin : q'.fin.2.2 ≠ 0 := fun e => by have : 1 ≤ q'.fin.2.2 := h1'; omega
    refine ⟨_, _, rfl, .inr ⟨h1', h7, fb, rfl, ?_⟩, fun _ => rfl, fun h => absurd h hfin, ?_⟩
    · rw [Below.heap_setCell _ _ _ _ hfb]
      exact unhide HB5
    · exact ((unhide H4).2.trans (unhide H5).1 (fun _ _ h => h)).setCell (.inr (Nat.le_refl _)) _
set_option maxRecDepth 100000 in
set_option maxHeartbeats 2000000 in
/-- get. -/
theorem get_Request (x : Value) (l : List Nat) (q' : Q) (Res : World → (Nat → Prop) → Nat → Array Value → Prop) (E : Nat → Addr) (w : World) (hg : G6 w E) (hw : 9 ≤ w.heap.size) (hx : Src w x l) (hl : l.length ≤ 140737488355328)
    (hst : ∀ w2 w' F F' P g vs, Res w2 F g vs → Stp w2 w' F F' P → (∀ k j, P k j → k = w.heap.size) → Res w' F' g vs)
    (hwhole : ∀ w1 cb b F g, Cd w1 cb b F (.rd ⟨ByteArray.empty, l, 0, 0, none⟩) E → w1.cell? ⟨g, 0, none⟩ = some (.int .u32 0) → w1.cell? ⟨g, 1, none⟩ = some (.int .u32 0) → w1.cell? ⟨g, 2, none⟩ = some (.int .u32 0) → w1.cell? ⟨g, 3, none⟩ = some (.int .u8 0) → w1.cell? ⟨g, 4, none⟩ = some (.int .u32 0) → w1.cell? ⟨g, 5, none⟩ = some (.int .u32 0) → w1.cell? ⟨g, 6, none⟩ = some (.int .u32 0) → w1.cell? ⟨g, 7, none⟩ = some (.int .u32 0) → w1.cell? ⟨g, 8, none⟩ = some (.slice none 0 0) → w1.cell? ⟨g, 9, none⟩ = some (.string ⟨#[]⟩) → (∀ i, Loc w1 cb F g i) → (∀ k, F k → w.heap.size < k) → w.heap.size < g → Fr (fun _ => False) w w1 → Calls Tryz.prog 74 #[.pointer (some ⟨cb, 0, none⟩), .iface 158 (.pointer (some ⟨g, 0, none⟩))] w1 fun e w' => e = .returned (.tuple #[]) ∧ ∃ F', Cd w' cb b F' (.rd q') E ∧ ∃ v0 v1 v2 v3 v4 v5 v6 v7 v8 v9, w'.cell? ⟨g, 0, none⟩ = some v0 ∧ w'.cell? ⟨g, 1, none⟩ = some v1 ∧ w'.cell? ⟨g, 2, none⟩ = some v2 ∧ w'.cell? ⟨g, 3, none⟩ = some v3 ∧ w'.cell? ⟨g, 4, none⟩ = some v4 ∧ w'.cell? ⟨g, 5, none⟩ = some v5 ∧ w'.cell? ⟨g, 6, none⟩ = some v6 ∧ w'.cell? ⟨g, 7, none⟩ = some v7 ∧ w'.cell? ⟨g, 8, none⟩ = some v8 ∧ w'.cell? ⟨g, 9, none⟩ = some v9 ∧ (∀ v ∈ ([v0, v1, v2, v3, v4, v5, v6, v7, v8, v9] : List Value), v.oneCell' = true) ∧ Res w' F' g #[v0, v1, v2, v3, v4, v5, v6, v7, v8, v9] ∧ Stp w1 w' F F' (fun k _ => k = g)) :
    Calls Tryz.prog 81 #[x] w fun e w' => ∃ vs err, e = .returned (.tuple #[.agg vs, err]) ∧ ErrV w' err q'.fin E ∧ (q'.fin.2.2 ≠ 0 → vs = #[.int .u32 0, .int .u32 0, .int .u32 0, .int .u8 0, .int .u32 0, .int .u32 0, .int .u32 0, .int .u32 0, .slice none 0 0, .string ⟨#[]⟩]) ∧ (q'.fin.2.2 = 0 → ∃ F' g, Res w' F' g vs ∧ w.heap.size ≤ g) ∧ Fr (fun _ => False) w w' := by
  obtain ⟨xo, xc, rfl⟩ := hx.form
  have hbx := box1 w (.cells #[.int .u32 0, .int .u32 0, .int .u32 0, .int .u8 0, .int .u32 0, .int .u32 0, .int .u32 0, .int .u32 0, .slice none 0 0, .string ⟨#[]⟩] 30)
  have HN := hide (newReader_any _ l (w.alloc (.cells #[.int .u32 0, .int .u32 0, .int .u32 0, .int .u8 0, .int .u32 0, .int .u32 0, .int .u32 0, .int .u32 0, .slice none 0 0, .string ⟨#[]⟩] 30)) (by simp; omega) (hx.fr hbx (fun _ _ _ _ _ h => h)) hl)
  have H := hide (And.intro hg (And.intro hst hwhole))
  have HB := hide hbx
  clear hg hst hwhole hx hbx
  go_enter Tryz.func81, Tryz.ntmps81
  go_wp2_with fail
  refine (unhide HN).mono ?_
  rintro e w1 ⟨b, F, rfl, hR1, hf1', hF1'⟩
  have hf1 : Fr (fun _ => False) w w1 := (unhide HB).trans hf1' (fun _ _ h => h)
  have hF1 : ∀ k, F k → w.heap.size < k := fun k hk => by have := hF1' k hk; simp at this; omega
  have hr0 : w1.cell? ⟨w.heap.size, 0, none⟩ = some (.int .u32 0) := (hf1'.cell (p := ⟨w.heap.size, 0, none⟩) (by simp) (fun h => h)).trans (by simp)
  have hrz : ∀ i, w1.frozen? ⟨w.heap.size, i, none⟩ = false := fun i => (hf1'.frozen (p := ⟨w.heap.size, i, none⟩) (by simp) (fun h => h)).trans (by simp)
  have hrb : w1.heap[w.heap.size]? = some (.cells #[.int .u32 0, .int .u32 0, .int .u32 0, .int .u8 0, .int .u32 0, .int .u32 0, .int .u32 0, .int .u32 0, .slice none 0 0, .string ⟨#[]⟩] 30) := (hf1'.block w.heap.size (by simp) (fun h => h)).trans (heap_alloc_new _ _)
  have hrl := lt_of_cell hr0
  clear hf1' hF1'
  have hbl := hR1.lt b hR1.fb
  have H1 := hide (And.intro hR1 (And.intro hf1 hF1))
  clear hR1 hf1 hF1
  go_wp2_with fail
  obtain ⟨W2, hW2⟩ : ∃ W2, ((w1.alloc (.cells #[.pointer none, .pointer (some ⟨b, 0, none⟩)] 144)).alloc (.cells #[.int .u32 0, .int .u32 0, .int .u32 0, .int .u8 0, .int .u32 0, .int .u32 0, .int .u32 0, .int .u32 0, .slice none 0 0, .string ⟨#[]⟩] 30)).alloc (.cells #[.int .u32 0, .int .u32 0, .int .u32 0, .int .u8 0, .int .u32 0, .int .u32 0, .int .u32 0, .int .u32 0, .slice none 0 0, .string ⟨#[]⟩] 30) = W2 := ⟨_, rfl⟩
  have hf12 : Fr (fun _ => False) w1 W2 := by rw [← hW2]; exact box3 _ _ _ _
  have HF12 := hide hf12
  have hf02 := (unhide H1).2.1.trans hf12 (fun _ _ h => h)
  have hsz2 : W2.heap.size = w1.heap.size + 3 := by rw [← hW2]; simp
  have hC2 : Cd W2 w1.heap.size b F (.rd ⟨ByteArray.empty, l, 0, 0, none⟩) E := by
    have hb1 := (unhide H1).1.lt
    have hw1 := (unhide H1).2.1.size
    refine ⟨(unhide H).1.fr hf02 (fun _ h => h.elim), fun hx => by have := hb1 _ hx; omega, fun k hk => by have := hb1 k hk; omega, (unhide H1).1.lo, by omega, ?_, ?_, ⟨(unhide H1).1.frame hf12 (fun _ _ h => h), ⟨Nat.zero_le _, Nat.zero_le _, fun y hy => by cases hy⟩, hl⟩, trivial⟩
    · rw [← hW2, World.cell?_alloc_past _ _ _ (by simp; omega), World.cell?_alloc_past _ _ _ (by simp), World.cell?_alloc_at _ _ _ _ (by simp)]; rfl
    · rw [← hW2, World.cell?_alloc_past _ _ _ (by simp; omega), World.cell?_alloc_past _ _ _ (by simp), World.cell?_alloc_at _ _ _ _ (by simp)]; rfl
  have hcs : ∀ (i : Nat) v, (#[.int .u32 0, .int .u32 0, .int .u32 0, .int .u8 0, .int .u32 0, .int .u32 0, .int .u32 0, .int .u32 0, .slice none 0 0, .string ⟨#[]⟩] : Array Value)[i]? = some v → W2.cell? ⟨w1.heap.size + 1, i, none⟩ = some v := fun i v hv => by
    rw [← hW2, World.cell?_alloc_past _ _ _ (by simp), World.cell?_alloc_at _ _ _ _ (by simp)]; exact hv
  have hnn : ∀ (i : Nat) v, (#[.int .u32 0, .int .u32 0, .int .u32 0, .int .u8 0, .int .u32 0, .int .u32 0, .int .u32 0, .int .u32 0, .slice none 0 0, .string ⟨#[]⟩] : Array Value)[i]? = some v → W2.cell? ⟨w1.heap.size + 1 + 1, i, none⟩ = some v := fun i v hv => by
    rw [← hW2, World.cell?_alloc_at _ _ _ _ (by simp)]; exact hv
  have hLo : ∀ i, Loc W2 w1.heap.size F (w1.heap.size + 1) i := fun i => by
    have hb1 := (unhide H1).1.lt
    have hw1 := (unhide H1).2.1.size
    exact ⟨(((by rw [← hW2]; exact box1 _ _) : Fr (fun _ => False) ((w1.alloc (.cells #[.pointer none, .pointer (some ⟨b, 0, none⟩)] 144)).alloc (.cells #[.int .u32 0, .int .u32 0, .int .u32 0, .int .u8 0, .int .u32 0, .int .u32 0, .int .u32 0, .int .u32 0, .slice none 0 0, .string ⟨#[]⟩] 30)) W2).frozen (p := ⟨w1.heap.size + 1, i, none⟩) (by simp) (fun h => h)).trans (by simp), by omega, fun hx => by have := hb1 _ hx; omega, by omega, by omega⟩
  have HW := hide ((unhide H).2.2 W2 w1.heap.size b F (w1.heap.size + 1) hC2 (hcs 0 _ rfl) (hcs 1 _ rfl) (hcs 2 _ rfl) (hcs 3 _ rfl) (hcs 4 _ rfl) (hcs 5 _ rfl) (hcs 6 _ rfl) (hcs 7 _ rfl) (hcs 8 _ rfl) (hcs 9 _ rfl) hLo (unhide H1).2.2 (by omega) hf02)
  have H2 := hide (And.intro hf02 (And.intro hnn hsz2))
  clear hC2 hf02 hLo hsz2 hcs hf12 hnn
  rw [hW2]
  clear hW2
  refine (unhide HW).mono ?_
  rintro e w3 ⟨rfl, F3, hC3, v0, v1, v2, v3, v4, v5, v6, v7, v8, v9, hv0, hv1, hv2, hv3, hv4, hv5, hv6, hv7, hv8, hv9, hone, hRes, hs3⟩
  have hst0 : ∀ (a : Addr) (m : Mode) (W : World), (store a v0 m).run Tryz.prog W = stored Tryz.prog W a v0 m := fun _ _ _ => run_store _ _ _ _ _ (hone v0 (by simp))
  have hst1 : ∀ (a : Addr) (m : Mode) (W : World), (store a v1 m).run Tryz.prog W = stored Tryz.prog W a v1 m := fun _ _ _ => run_store _ _ _ _ _ (hone v1 (by simp))
  have hst2 : ∀ (a : Addr) (m : Mode) (W : World), (store a v2 m).run Tryz.prog W = stored Tryz.prog W a v2 m := fun _ _ _ => run_store _ _ _ _ _ (hone v2 (by simp))
  have hst3 : ∀ (a : Addr) (m : Mode) (W : World), (store a v3 m).run Tryz.prog W = stored Tryz.prog W a v3 m := fun _ _ _ => run_store _ _ _ _ _ (hone v3 (by simp))
  have hst4 : ∀ (a : Addr) (m : Mode) (W : World), (store a v4 m).run Tryz.prog W = stored Tryz.prog W a v4 m := fun _ _ _ => run_store _ _ _ _ _ (hone v4 (by simp))
  have hst5 : ∀ (a : Addr) (m : Mode) (W : World), (store a v5 m).run Tryz.prog W = stored Tryz.prog W a v5 m := fun _ _ _ => run_store _ _ _ _ _ (hone v5 (by simp))
  have hst6 : ∀ (a : Addr) (m : Mode) (W : World), (store a v6 m).run Tryz.prog W = stored Tryz.prog W a v6 m := fun _ _ _ => run_store _ _ _ _ _ (hone v6 (by simp))
  have hst7 : ∀ (a : Addr) (m : Mode) (W : World), (store a v7 m).run Tryz.prog W = stored Tryz.prog W a v7 m := fun _ _ _ => run_store _ _ _ _ _ (hone v7 (by simp))
  have hst8 : ∀ (a : Addr) (m : Mode) (W : World), (store a v8 m).run Tryz.prog W = stored Tryz.prog W a v8 m := fun _ _ _ => run_store _ _ _ _ _ (hone v8 (by simp))
  have hst9 : ∀ (a : Addr) (m : Mode) (W : World), (store a v9 m).run Tryz.prog W = stored Tryz.prog W a v9 m := fun _ _ _ => run_store _ _ _ _ _ (hone v9 (by simp))
  clear hone
  have h1 : w3.cell? ⟨w1.heap.size, 1, none⟩ = some (.pointer (some ⟨b, 0, none⟩)) := hC3.c1
  have hl1 := lt_of_cell h1
  obtain ⟨hf02, hnn, hsz2⟩ := unhide H2
  have hFb : ∀ k, F k → k < w1.heap.size := (unhide H1).1.lt
  have hne : ∀ i, w3.cell? ⟨w1.heap.size + 1 + 1, i, none⟩ = W2.cell? ⟨w1.heap.size + 1 + 1, i, none⟩ := fun i => hs3.oth (w1.heap.size + 1 + 1) i (by omega) (fun hx => by have := hFb _ hx; omega) (fun h => by omega)
  have hn0 := (hne 0).trans (hnn 0 _ rfl)
  have hn1 := (hne 1).trans (hnn 1 _ rfl)
  have hn2 := (hne 2).trans (hnn 2 _ rfl)
  have hn3 := (hne 3).trans (hnn 3 _ rfl)
  have hn4 := (hne 4).trans (hnn 4 _ rfl)
  have hn5 := (hne 5).trans (hnn 5 _ rfl)
  have hn6 := (hne 6).trans (hnn 6 _ rfl)
  have hn7 := (hne 7).trans (hnn 7 _ rfl)
  have hn8 := (hne 8).trans (hnn 8 _ rfl)
  have hn9 := (hne 9).trans (hnn 9 _ rfl)
  have hrF : ¬ F w.heap.size := fun hx => by have := (unhide H1).2.2 _ hx; omega
  have hrb3 : w3.heap[w.heap.size]? = some (.cells #[.int .u32 0, .int .u32 0, .int .u32 0, .int .u8 0, .int .u32 0, .int .u32 0, .int .u32 0, .int .u32 0, .slice none 0 0, .string ⟨#[]⟩] 30) := (hs3.block (by omega) hrF (fun i h => by omega)).trans ((unhide HF12).block _ hrl (fun h => h) |>.trans hrb)
  have hf03 : Fr (fun _ => False) w w3 := hf02.trans hs3.fr (fun k hk hx => hx.elim (fun hx => by have := (unhide H1).2.2 k hx; omega) (fun ⟨_, hx⟩ => by omega))
  have hst3 : R w3 b F3 (q'.rst E) ∧ q'.ok ∧ q'.all.length ≤ 140737488355328 := hC3.st
  have HD := hide (rName_step q' n_end b F3 E w3 hst3.1)
  have H3 := hide (And.intro hC3 (And.intro hs3 (And.intro hRes (And.intro hf03 (And.intro hst3.2.1 hrF)))))
  clear hC3 hs3 hRes hf03 hst3 hrF hf02 hnn hsz2 hFb hne
  go_wp2_with fail
  refine (unhide HD).mono ?_
  rintro e w4 ⟨rfl, hR4, hch4⟩
  have hgF3 := (unhide H3).2.1.nF (by have := (unhide H2).2.2; omega) (show ¬ F (w1.heap.size + 1) from fun hx => by have := (unhide H1).1.lt _ hx; omega)
  have hnF3 := (unhide H3).2.1.nF (by have := (unhide H2).2.2; omega) (show ¬ F (w1.heap.size + 1 + 1) from fun hx => by have := (unhide H1).1.lt _ hx; omega)
  have hcF3 := (unhide H3).1.nf
  have hv04 := (hch4.fr.cell (p := ⟨w1.heap.size + 1, 0, none⟩) (lt_of_cell hv0) hgF3).trans hv0
  have hv14 := (hch4.fr.cell (p := ⟨w1.heap.size + 1, 1, none⟩) (lt_of_cell hv1) hgF3).trans hv1
  have hv24 := (hch4.fr.cell (p := ⟨w1.heap.size + 1, 2, none⟩) (lt_of_cell hv2) hgF3).trans hv2
  have hv34 := (hch4.fr.cell (p := ⟨w1.heap.size + 1, 3, none⟩) (lt_of_cell hv3) hgF3).trans hv3
  have hv44 := (hch4.fr.cell (p := ⟨w1.heap.size + 1, 4, none⟩) (lt_of_cell hv4) hgF3).trans hv4
  have hv54 := (hch4.fr.cell (p := ⟨w1.heap.size + 1, 5, none⟩) (lt_of_cell hv5) hgF3).trans hv5
  have hv64 := (hch4.fr.cell (p := ⟨w1.heap.size + 1, 6, none⟩) (lt_of_cell hv6) hgF3).trans hv6
  have hv74 := (hch4.fr.cell (p := ⟨w1.heap.size + 1, 7, none⟩) (lt_of_cell hv7) hgF3).trans hv7
  have hv84 := (hch4.fr.cell (p := ⟨w1.heap.size + 1, 8, none⟩) (lt_of_cell hv8) hgF3).trans hv8
  have hv94 := (hch4.fr.cell (p := ⟨w1.heap.size + 1, 9, none⟩) (lt_of_cell hv9) hgF3).trans hv9
  have hn04 := (hch4.fr.cell (p := ⟨w1.heap.size + 1 + 1, 0, none⟩) (lt_of_cell hn0) hnF3).trans hn0
  have hn14 := (hch4.fr.cell (p := ⟨w1.heap.size + 1 + 1, 1, none⟩) (lt_of_cell hn1) hnF3).trans hn1
  have hn24 := (hch4.fr.cell (p := ⟨w1.heap.size + 1 + 1, 2, none⟩) (lt_of_cell hn2) hnF3).trans hn2
  have hn34 := (hch4.fr.cell (p := ⟨w1.heap.size + 1 + 1, 3, none⟩) (lt_of_cell hn3) hnF3).trans hn3
  have hn44 := (hch4.fr.cell (p := ⟨w1.heap.size + 1 + 1, 4, none⟩) (lt_of_cell hn4) hnF3).trans hn4
  have hn54 := (hch4.fr.cell (p := ⟨w1.heap.size + 1 + 1, 5, none⟩) (lt_of_cell hn5) hnF3).trans hn5
  have hn64 := (hch4.fr.cell (p := ⟨w1.heap.size + 1 + 1, 6, none⟩) (lt_of_cell hn6) hnF3).trans hn6
  have hn74 := (hch4.fr.cell (p := ⟨w1.heap.size + 1 + 1, 7, none⟩) (lt_of_cell hn7) hnF3).trans hn7
  have hn84 := (hch4.fr.cell (p := ⟨w1.heap.size + 1 + 1, 8, none⟩) (lt_of_cell hn8) hnF3).trans hn8
  have hn94 := (hch4.fr.cell (p := ⟨w1.heap.size + 1 + 1, 9, none⟩) (lt_of_cell hn9) hnF3).trans hn9
  have h14 : w4.cell? ⟨w1.heap.size, 1, none⟩ = some (.pointer (some ⟨b, 0, none⟩)) := (hch4.fr.cell (p := ⟨w1.heap.size, 1, none⟩) hl1 hcF3).trans h1
  have hrb4 : w4.heap[w.heap.size]? = some (.cells #[.int .u32 0, .int .u32 0, .int .u32 0, .int .u8 0, .int .u32 0, .int .u32 0, .int .u32 0, .int .u32 0, .slice none 0 0, .string ⟨#[]⟩] 30) := (hch4.fr.block w.heap.size (by omega) ((unhide H3).2.1.nF (by have := (unhide H2).2.2; omega) (unhide H3).2.2.2.2.2)).trans hrb3
  have HE := hide (done_any (q'.named n_end) b F3 E w4 hR4 (Q.named_ok (unhide H3).2.2.2.2.1 n_end) ((unhide H3).1.g7.fr hch4.fr (unhide H3).1.lo).gl)
  have hs4 : Stp w3 w4 F3 F3 (fun _ _ => False) := Stp.of_ch hch4 _
  have hf04 : Fr (fun _ => False) w w4 := (unhide H3).2.2.2.1.trans hch4.fr (fun k hk hx => by
    rcases (unhide H3).2.1.new k hx with h | h
    · have := (unhide H1).2.2 k h; omega
    · have := (unhide H1).2.1.size; have := (unhide H2).2.2; omega)
  have H4 := hide (And.intro hs4 hf04)
  clear hR4 hch4 hs4 hf04 hgF3 hnF3 hcF3
  go_wp2_with fail
  refine (unhide HE).mono ?_
  rintro e w5 ⟨err, rfl, hEr, hf5⟩
  have hrb5 : w5.heap[w.heap.size]? = some (.cells #[.int .u32 0, .int .u32 0, .int .u32 0, .int .u8 0, .int .u32 0, .int .u32 0, .int .u32 0, .int .u32 0, .slice none 0 0, .string ⟨#[]⟩] 30) := (hf5.block w.heap.size (by have := (unhide H4).1.size; have := (unhide H3).2.1.size; have := (unhide H2).2.2; omega) (fun h => h)).trans hrb4
  have hv05 := (hf5.cell (p := ⟨w1.heap.size + 1, 0, none⟩) (lt_of_cell hv04) (fun h => h)).trans hv04
  have hn05 := (hf5.cell (p := ⟨w1.heap.size + 1 + 1, 0, none⟩) (lt_of_cell hn04) (fun h => h)).trans hn04
  have hv15 := (hf5.cell (p := ⟨w1.heap.size + 1, 1, none⟩) (lt_of_cell hv14) (fun h => h)).trans hv14
  have hn15 := (hf5.cell (p := ⟨w1.heap.size + 1 + 1, 1, none⟩) (lt_of_cell hn14) (fun h => h)).trans hn14
  have hv25 := (hf5.cell (p := ⟨w1.heap.size + 1, 2, none⟩) (lt_of_cell hv24) (fun h => h)).trans hv24
  have hn25 := (hf5.cell (p := ⟨w1.heap.size + 1 + 1, 2, none⟩) (lt_of_cell hn24) (fun h => h)).trans hn24
  have hv35 := (hf5.cell (p := ⟨w1.heap.size + 1, 3, none⟩) (lt_of_cell hv34) (fun h => h)).trans hv34
  have hn35 := (hf5.cell (p := ⟨w1.heap.size + 1 + 1, 3, none⟩) (lt_of_cell hn34) (fun h => h)).trans hn34
  have hv45 := (hf5.cell (p := ⟨w1.heap.size + 1, 4, none⟩) (lt_of_cell hv44) (fun h => h)).trans hv44
  have hn45 := (hf5.cell (p := ⟨w1.heap.size + 1 + 1, 4, none⟩) (lt_of_cell hn44) (fun h => h)).trans hn44
  have hv55 := (hf5.cell (p := ⟨w1.heap.size + 1, 5, none⟩) (lt_of_cell hv54) (fun h => h)).trans hv54
  have hn55 := (hf5.cell (p := ⟨w1.heap.size + 1 + 1, 5, none⟩) (lt_of_cell hn54) (fun h => h)).trans hn54
  have hv65 := (hf5.cell (p := ⟨w1.heap.size + 1, 6, none⟩) (lt_of_cell hv64) (fun h => h)).trans hv64
  have hn65 := (hf5.cell (p := ⟨w1.heap.size + 1 + 1, 6, none⟩) (lt_of_cell hn64) (fun h => h)).trans hn64
  have hv75 := (hf5.cell (p := ⟨w1.heap.size + 1, 7, none⟩) (lt_of_cell hv74) (fun h => h)).trans hv74
  have hn75 := (hf5.cell (p := ⟨w1.heap.size + 1 + 1, 7, none⟩) (lt_of_cell hn74) (fun h => h)).trans hn74
  have hv85 := (hf5.cell (p := ⟨w1.heap.size + 1, 8, none⟩) (lt_of_cell hv84) (fun h => h)).trans hv84
  have hn85 := (hf5.cell (p := ⟨w1.heap.size + 1 + 1, 8, none⟩) (lt_of_cell hn84) (fun h => h)).trans hn84
  have hv95 := (hf5.cell (p := ⟨w1.heap.size + 1, 9, none⟩) (lt_of_cell hv94) (fun h => h)).trans hv94
  have hn95 := (hf5.cell (p := ⟨w1.heap.size + 1 + 1, 9, none⟩) (lt_of_cell hn94) (fun h => h)).trans hn94
  have hr05 : w5.cell? ⟨w.heap.size, 0, none⟩ = some (.int .u32 0) := by simp [World.cell?, hrb5]
  have hr15 : w5.cell? ⟨w.heap.size, 1, none⟩ = some (.int .u32 0) := by simp [World.cell?, hrb5]
  have hr25 : w5.cell? ⟨w.heap.size, 2, none⟩ = some (.int .u32 0) := by simp [World.cell?, hrb5]
  have hr35 : w5.cell? ⟨w.heap.size, 3, none⟩ = some (.int .u8 0) := by simp [World.cell?, hrb5]
  have hr45 : w5.cell? ⟨w.heap.size, 4, none⟩ = some (.int .u32 0) := by simp [World.cell?, hrb5]
  have hr55 : w5.cell? ⟨w.heap.size, 5, none⟩ = some (.int .u32 0) := by simp [World.cell?, hrb5]
  have hr65 : w5.cell? ⟨w.heap.size, 6, none⟩ = some (.int .u32 0) := by simp [World.cell?, hrb5]
  have hr75 : w5.cell? ⟨w.heap.size, 7, none⟩ = some (.int .u32 0) := by simp [World.cell?, hrb5]
  have hr85 : w5.cell? ⟨w.heap.size, 8, none⟩ = some (.slice none 0 0) := by simp [World.cell?, hrb5]
  have hr95 : w5.cell? ⟨w.heap.size, 9, none⟩ = some (.string ⟨#[]⟩) := by simp [World.cell?, hrb5]
  have hrz5 : ∀ i, w5.frozen? ⟨w.heap.size, i, none⟩ = false := fun i => by simp [World.frozen?, hrb5]
  have hrl5 := lt_of_cell hr05
  have hlv5 := lt_of_cell hv05
  have hln5 := lt_of_cell hn05
  have hnr1 : w1.heap.size + 1 ≠ w.heap.size := by omega
  have hnr2 : w1.heap.size + 1 + 1 ≠ w.heap.size := by omega
  have hsF : ∀ (i : Nat) v W, Fr (fun k => k = w.heap.size) w5 W → Fr (fun k => k = w.heap.size) w5 (W.setCell ⟨w.heap.size, i, none⟩ v) := fun i v W h => h.setCell (.inl rfl) v
  have H5 := hide (And.intro hf5 (hEr))
  rcases hEr with ⟨h0, rfl⟩ | ⟨h1', h7, fb, rfl, hb⟩
  · clear hf5
    go_wp2_with fail
    refine bodyPost_ret (v := .tuple #[.agg #[v0, v1, v2, v3, v4, v5, v6, v7, v8, v9], .nilIface]) (by simp [results, Tryz.results81, go_sem, hr05, hr15, hr25, hr35, hr45, hr55, hr65, hr75, hr85, hr95]) rfl ?_
    have hfin : q'.fin.2.2 = 0 := h0
    refine ⟨_, _, rfl, .inl ⟨hfin, rfl⟩, fun h => absurd hfin h, fun _ => ⟨F3, w1.heap.size + 1, ?_, by omega⟩, ?_⟩
    · have hR5 := (unhide H).2.1 _ _ _ _ _ _ _ ((unhide H).2.1 _ _ _ _ _ _ _ (unhide H3).2.2.1 (unhide H4).1 (fun _ _ h => h.elim)) (Stp.of_fr (unhide H5).1 F3 (fun _ _ => False)) (fun _ _ h => h.elim)
      exact (unhide H).2.1 _ _ _ _ _ _ _ hR5 (((((((((((Stp.refl w5 F3 (fun k _ => k = w.heap.size)).trans (Stp.set w.heap.size 0 _) (fun k j _ h => h.1)).trans (Stp.set w.heap.size 1 _) (fun k j _ h => h.1)).trans (Stp.set w.heap.size 2 _) (fun k j _ h => h.1)).trans (Stp.set w.heap.size 3 _) (fun k j _ h => h.1)).trans (Stp.set w.heap.size 4 _) (fun k j _ h => h.1)).trans (Stp.set w.heap.size 5 _) (fun k j _ h => h.1)).trans (Stp.set w.heap.size 6 _) (fun k j _ h => h.1)).trans (Stp.set w.heap.size 7 _) (fun k j _ h => h.1)).trans (Stp.set w.heap.size 8 _) (fun k j _ h => h.1)).trans (Stp.set w.heap.size 9 _) (fun k j _ h => h.1)) (fun k j h => h)
    · exact (((((((((((unhide H4).2.trans (unhide H5).1 (fun _ _ h => h)).setCell (.inr (Nat.le_refl _)) _).setCell (.inr (Nat.le_refl _)) _).setCell (.inr (Nat.le_refl _)) _).setCell (.inr (Nat.le_refl _)) _).setCell (.inr (Nat.le_refl _)) _).setCell (.inr (Nat.le_refl _)) _).setCell (.inr (Nat.le_refl _)) _).setCell (.inr (Nat.le_refl _)) _).setCell (.inr (Nat.le_refl _)) _).setCell (.inr (Nat.le_refl _)) _
  · have hfb : fb ≠ w.heap.size := fun e => by rw [e, hrb5] at hb; simp [faultObj] at hb
    have HB5 := hide hb
    clear hf5 hb
    go_wp2_with fail
    refine bodyPost_ret (v := .tuple #[.agg #[.int .u32 0, .int .u32 0, .int .u32 0, .int .u8 0, .int .u32 0, .int .u32 0, .int .u32 0, .int .u32 0, .slice none 0 0, .string ⟨#[]⟩], .iface 85 (.pointer (some ⟨fb, 0, none⟩))]) (by simp [results, Tryz.results81, go_sem, hr05, hr15, hr25, hr35, hr45, hr55, hr65, hr75, hr85, hr95]) rfl ?_
    have hfin : q'.fin.2.2 ≠ 0 := fun e => by have : 1 ≤ q'.fin.2.2 := h1'; omega
    refine ⟨_, _, rfl, .inr ⟨h1', h7, fb, rfl, ?_⟩, fun _ => rfl, fun h => absurd h hfin, ?_⟩
    · rw [Below.heap_setCell _ _ _ _ hfb, Below.heap_setCell _ _ _ _ hfb, Below.heap_setCell _ _ _ _ hfb, Below.heap_setCell _ _ _ _ hfb, Below.heap_setCell _ _ _ _ hfb, Below.heap_setCell _ _ _ _ hfb, Below.heap_setCell _ _ _ _ hfb, Below.heap_setCell _ _ _ _ hfb, Below.heap_setCell _ _ _ _ hfb, Below.heap_setCell _ _ _ _ hfb]
      exact unhide HB5
    · exact (((((((((((unhide H4).2.trans (unhide H5).1 (fun _ _ h => h)).setCell (.inr (Nat.le_refl _)) _).setCell (.inr (Nat.le_refl _)) _).setCell (.inr (Nat.le_refl _)) _).setCell (.inr (Nat.le_refl _)) _).setCell (.inr (Nat.le_refl _)) _).setCell (.inr (Nat.le_refl _)) _).setCell (.inr (Nat.le_refl _)) _).setCell (.inr (Nat.le_refl _)) _).setCell (.inr (Nat.le_refl _)) _).setCell (.inr (Nat.le_refl _)) _
set_option maxRecDepth 100000 in
set_option maxHeartbeats 2000000 in
/-- get. -/
theorem get_Answer (x : Value) (l : List Nat) (q' : Q) (Res : World → (Nat → Prop) → Nat → Array Value → Prop) (E : Nat → Addr) (w : World) (hg : G6 w E) (hw : 9 ≤ w.heap.size) (hx : Src w x l) (hl : l.length ≤ 140737488355328)
    (hst : ∀ w2 w' F F' P g vs, Res w2 F g vs → Stp w2 w' F F' P → (∀ k j, P k j → k = w.heap.size) → Res w' F' g vs)
    (hwhole : ∀ w1 cb b F g, Cd w1 cb b F (.rd ⟨ByteArray.empty, l, 0, 0, none⟩) E → w1.cell? ⟨g, 0, none⟩ = some (.int .u32 0) → w1.cell? ⟨g, 1, none⟩ = some (.int .u32 0) → w1.cell? ⟨g, 2, none⟩ = some (.int .u8 0) → w1.cell? ⟨g, 3, none⟩ = some (.int .u32 0) → w1.cell? ⟨g, 4, none⟩ = some (.int .u32 0) → w1.cell? ⟨g, 5, none⟩ = some (.slice none 0 0) → w1.cell? ⟨g, 6, none⟩ = some (.slice none 0 0) → (∀ i, Loc w1 cb F g i) → (∀ k, F k → w.heap.size < k) → w.heap.size < g → Fr (fun _ => False) w w1 → Calls Tryz.prog 74 #[.pointer (some ⟨cb, 0, none⟩), .iface 159 (.pointer (some ⟨g, 0, none⟩))] w1 fun e w' => e = .returned (.tuple #[]) ∧ ∃ F', Cd w' cb b F' (.rd q') E ∧ ∃ v0 v1 v2 v3 v4 v5 v6, w'.cell? ⟨g, 0, none⟩ = some v0 ∧ w'.cell? ⟨g, 1, none⟩ = some v1 ∧ w'.cell? ⟨g, 2, none⟩ = some v2 ∧ w'.cell? ⟨g, 3, none⟩ = some v3 ∧ w'.cell? ⟨g, 4, none⟩ = some v4 ∧ w'.cell? ⟨g, 5, none⟩ = some v5 ∧ w'.cell? ⟨g, 6, none⟩ = some v6 ∧ (∀ v ∈ ([v0, v1, v2, v3, v4, v5, v6] : List Value), v.oneCell' = true) ∧ Res w' F' g #[v0, v1, v2, v3, v4, v5, v6] ∧ Stp w1 w' F F' (fun k _ => k = g)) :
    Calls Tryz.prog 82 #[x] w fun e w' => ∃ vs err, e = .returned (.tuple #[.agg vs, err]) ∧ ErrV w' err q'.fin E ∧ (q'.fin.2.2 ≠ 0 → vs = #[.int .u32 0, .int .u32 0, .int .u8 0, .int .u32 0, .int .u32 0, .slice none 0 0, .slice none 0 0]) ∧ (q'.fin.2.2 = 0 → ∃ F' g, Res w' F' g vs ∧ w.heap.size ≤ g) ∧ Fr (fun _ => False) w w' := by
  obtain ⟨xo, xc, rfl⟩ := hx.form
  have hbx := box1 w (.cells #[.int .u32 0, .int .u32 0, .int .u8 0, .int .u32 0, .int .u32 0, .slice none 0 0, .slice none 0 0] 33)
  have HN := hide (newReader_any _ l (w.alloc (.cells #[.int .u32 0, .int .u32 0, .int .u8 0, .int .u32 0, .int .u32 0, .slice none 0 0, .slice none 0 0] 33)) (by simp; omega) (hx.fr hbx (fun _ _ _ _ _ h => h)) hl)
  have H := hide (And.intro hg (And.intro hst hwhole))
  have HB := hide hbx
  clear hg hst hwhole hx hbx
  go_enter Tryz.func82, Tryz.ntmps82
  go_wp2_with fail
  refine (unhide HN).mono ?_
  rintro e w1 ⟨b, F, rfl, hR1, hf1', hF1'⟩
  have hf1 : Fr (fun _ => False) w w1 := (unhide HB).trans hf1' (fun _ _ h => h)
  have hF1 : ∀ k, F k → w.heap.size < k := fun k hk => by have := hF1' k hk; simp at this; omega
  have hr0 : w1.cell? ⟨w.heap.size, 0, none⟩ = some (.int .u32 0) := (hf1'.cell (p := ⟨w.heap.size, 0, none⟩) (by simp) (fun h => h)).trans (by simp)
  have hrz : ∀ i, w1.frozen? ⟨w.heap.size, i, none⟩ = false := fun i => (hf1'.frozen (p := ⟨w.heap.size, i, none⟩) (by simp) (fun h => h)).trans (by simp)
  have hrb : w1.heap[w.heap.size]? = some (.cells #[.int .u32 0, .int .u32 0, .int .u8 0, .int .u32 0, .int .u32 0, .slice none 0 0, .slice none 0 0] 33) := (hf1'.block w.heap.size (by simp) (fun h => h)).trans (heap_alloc_new _ _)
  have hrl := lt_of_cell hr0
  clear hf1' hF1'
  have hbl := hR1.lt b hR1.fb
  have H1 := hide (And.intro hR1 (And.intro hf1 hF1))
  clear hR1 hf1 hF1
  go_wp2_with fail
  obtain ⟨W2, hW2⟩ : ∃ W2, ((w1.alloc (.cells #[.pointer none, .pointer (some ⟨b, 0, none⟩)] 144)).alloc (.cells #[.int .u32 0, .int .u32 0, .int .u8 0, .int .u32 0, .int .u32 0, .slice none 0 0, .slice none 0 0] 33)).alloc (.cells #[.int .u32 0, .int .u32 0, .int .u8 0, .int .u32 0, .int .u32 0, .slice none 0 0, .slice none 0 0] 33) = W2 := ⟨_, rfl⟩
  have hf12 : Fr (fun _ => False) w1 W2 := by rw [← hW2]; exact box3 _ _ _ _
  have HF12 := hide hf12
  have hf02 := (unhide H1).2.1.trans hf12 (fun _ _ h => h)
  have hsz2 : W2.heap.size = w1.heap.size + 3 := by rw [← hW2]; simp
  have hC2 : Cd W2 w1.heap.size b F (.rd ⟨ByteArray.empty, l, 0, 0, none⟩) E := by
    have hb1 := (unhide H1).1.lt
    have hw1 := (unhide H1).2.1.size
    refine ⟨(unhide H).1.fr hf02 (fun _ h => h.elim), fun hx => by have := hb1 _ hx; omega, fun k hk => by have := hb1 k hk; omega, (unhide H1).1.lo, by omega, ?_, ?_, ⟨(unhide H1).1.frame hf12 (fun _ _ h => h), ⟨Nat.zero_le _, Nat.zero_le _, fun y hy => by cases hy⟩, hl⟩, trivial⟩
    · rw [← hW2, World.cell?_alloc_past _ _ _ (by simp; omega), World.cell?_alloc_past _ _ _ (by simp), World.cell?_alloc_at _ _ _ _ (by simp)]; rfl
    · rw [← hW2, World.cell?_alloc_past _ _ _ (by simp; omega), World.cell?_alloc_past _ _ _ (by simp), World.cell?_alloc_at _ _ _ _ (by simp)]; rfl
  have hcs : ∀ (i : Nat) v, (#[.int .u32 0, .int .u32 0, .int .u8 0, .int .u32 0, .int .u32 0, .slice none 0 0, .slice none 0 0] : Array Value)[i]? = some v → W2.cell? ⟨w1.heap.size + 1, i, none⟩ = some v := fun i v hv => by
    rw [← hW2, World.cell?_alloc_past _ _ _ (by simp), World.cell?_alloc_at _ _ _ _ (by simp)]; exact hv
  have hnn : ∀ (i : Nat) v, (#[.int .u32 0, .int .u32 0, .int .u8 0, .int .u32 0, .int .u32 0, .slice none 0 0, .slice none 0 0] : Array Value)[i]? = some v → W2.cell? ⟨w1.heap.size + 1 + 1, i, none⟩ = some v := fun i v hv => by
    rw [← hW2, World.cell?_alloc_at _ _ _ _ (by simp)]; exact hv
  have hLo : ∀ i, Loc W2 w1.heap.size F (w1.heap.size + 1) i := fun i => by
    have hb1 := (unhide H1).1.lt
    have hw1 := (unhide H1).2.1.size
    exact ⟨(((by rw [← hW2]; exact box1 _ _) : Fr (fun _ => False) ((w1.alloc (.cells #[.pointer none, .pointer (some ⟨b, 0, none⟩)] 144)).alloc (.cells #[.int .u32 0, .int .u32 0, .int .u8 0, .int .u32 0, .int .u32 0, .slice none 0 0, .slice none 0 0] 33)) W2).frozen (p := ⟨w1.heap.size + 1, i, none⟩) (by simp) (fun h => h)).trans (by simp), by omega, fun hx => by have := hb1 _ hx; omega, by omega, by omega⟩
  have HW := hide ((unhide H).2.2 W2 w1.heap.size b F (w1.heap.size + 1) hC2 (hcs 0 _ rfl) (hcs 1 _ rfl) (hcs 2 _ rfl) (hcs 3 _ rfl) (hcs 4 _ rfl) (hcs 5 _ rfl) (hcs 6 _ rfl) hLo (unhide H1).2.2 (by omega) hf02)
  have H2 := hide (And.intro hf02 (And.intro hnn hsz2))
  clear hC2 hf02 hLo hsz2 hcs hf12 hnn
  rw [hW2]
  clear hW2
  refine (unhide HW).mono ?_
  rintro e w3 ⟨rfl, F3, hC3, v0, v1, v2, v3, v4, v5, v6, hv0, hv1, hv2, hv3, hv4, hv5, hv6, hone, hRes, hs3⟩
  have hst0 : ∀ (a : Addr) (m : Mode) (W : World), (store a v0 m).run Tryz.prog W = stored Tryz.prog W a v0 m := fun _ _ _ => run_store _ _ _ _ _ (hone v0 (by simp))
  have hst1 : ∀ (a : Addr) (m : Mode) (W : World), (store a v1 m).run Tryz.prog W = stored Tryz.prog W a v1 m := fun _ _ _ => run_store _ _ _ _ _ (hone v1 (by simp))
  have hst2 : ∀ (a : Addr) (m : Mode) (W : World), (store a v2 m).run Tryz.prog W = stored Tryz.prog W a v2 m := fun _ _ _ => run_store _ _ _ _ _ (hone v2 (by simp))
  have hst3 : ∀ (a : Addr) (m : Mode) (W : World), (store a v3 m).run Tryz.prog W = stored Tryz.prog W a v3 m := fun _ _ _ => run_store _ _ _ _ _ (hone v3 (by simp))
  have hst4 : ∀ (a : Addr) (m : Mode) (W : World), (store a v4 m).run Tryz.prog W = stored Tryz.prog W a v4 m := fun _ _ _ => run_store _ _ _ _ _ (hone v4 (by simp))
  have hst5 : ∀ (a : Addr) (m : Mode) (W : World), (store a v5 m).run Tryz.prog W = stored Tryz.prog W a v5 m := fun _ _ _ => run_store _ _ _ _ _ (hone v5 (by simp))
  have hst6 : ∀ (a : Addr) (m : Mode) (W : World), (store a v6 m).run Tryz.prog W = stored Tryz.prog W a v6 m := fun _ _ _ => run_store _ _ _ _ _ (hone v6 (by simp))
  clear hone
  have h1 : w3.cell? ⟨w1.heap.size, 1, none⟩ = some (.pointer (some ⟨b, 0, none⟩)) := hC3.c1
  have hl1 := lt_of_cell h1
  obtain ⟨hf02, hnn, hsz2⟩ := unhide H2
  have hFb : ∀ k, F k → k < w1.heap.size := (unhide H1).1.lt
  have hne : ∀ i, w3.cell? ⟨w1.heap.size + 1 + 1, i, none⟩ = W2.cell? ⟨w1.heap.size + 1 + 1, i, none⟩ := fun i => hs3.oth (w1.heap.size + 1 + 1) i (by omega) (fun hx => by have := hFb _ hx; omega) (fun h => by omega)
  have hn0 := (hne 0).trans (hnn 0 _ rfl)
  have hn1 := (hne 1).trans (hnn 1 _ rfl)
  have hn2 := (hne 2).trans (hnn 2 _ rfl)
  have hn3 := (hne 3).trans (hnn 3 _ rfl)
  have hn4 := (hne 4).trans (hnn 4 _ rfl)
  have hn5 := (hne 5).trans (hnn 5 _ rfl)
  have hn6 := (hne 6).trans (hnn 6 _ rfl)
  have hrF : ¬ F w.heap.size := fun hx => by have := (unhide H1).2.2 _ hx; omega
  have hrb3 : w3.heap[w.heap.size]? = some (.cells #[.int .u32 0, .int .u32 0, .int .u8 0, .int .u32 0, .int .u32 0, .slice none 0 0, .slice none 0 0] 33) := (hs3.block (by omega) hrF (fun i h => by omega)).trans ((unhide HF12).block _ hrl (fun h => h) |>.trans hrb)
  have hf03 : Fr (fun _ => False) w w3 := hf02.trans hs3.fr (fun k hk hx => hx.elim (fun hx => by have := (unhide H1).2.2 k hx; omega) (fun ⟨_, hx⟩ => by omega))
  have hst3 : R w3 b F3 (q'.rst E) ∧ q'.ok ∧ q'.all.length ≤ 140737488355328 := hC3.st
  have HD := hide (rName_step q' n_end b F3 E w3 hst3.1)
  have H3 := hide (And.intro hC3 (And.intro hs3 (And.intro hRes (And.intro hf03 (And.intro hst3.2.1 hrF)))))
  clear hC3 hs3 hRes hf03 hst3 hrF hf02 hnn hsz2 hFb hne
  go_wp2_with fail
  refine (unhide HD).mono ?_
  rintro e w4 ⟨rfl, hR4, hch4⟩
  have hgF3 := (unhide H3).2.1.nF (by have := (unhide H2).2.2; omega) (show ¬ F (w1.heap.size + 1) from fun hx => by have := (unhide H1).1.lt _ hx; omega)
  have hnF3 := (unhide H3).2.1.nF (by have := (unhide H2).2.2; omega) (show ¬ F (w1.heap.size + 1 + 1) from fun hx => by have := (unhide H1).1.lt _ hx; omega)
  have hcF3 := (unhide H3).1.nf
  have hv04 := (hch4.fr.cell (p := ⟨w1.heap.size + 1, 0, none⟩) (lt_of_cell hv0) hgF3).trans hv0
  have hv14 := (hch4.fr.cell (p := ⟨w1.heap.size + 1, 1, none⟩) (lt_of_cell hv1) hgF3).trans hv1
  have hv24 := (hch4.fr.cell (p := ⟨w1.heap.size + 1, 2, none⟩) (lt_of_cell hv2) hgF3).trans hv2
  have hv34 := (hch4.fr.cell (p := ⟨w1.heap.size + 1, 3, none⟩) (lt_of_cell hv3) hgF3).trans hv3
  have hv44 := (hch4.fr.cell (p := ⟨w1.heap.size + 1, 4, none⟩) (lt_of_cell hv4) hgF3).trans hv4
  have hv54 := (hch4.fr.cell (p := ⟨w1.heap.size + 1, 5, none⟩) (lt_of_cell hv5) hgF3).trans hv5
  have hv64 := (hch4.fr.cell (p := ⟨w1.heap.size + 1, 6, none⟩) (lt_of_cell hv6) hgF3).trans hv6
  have hn04 := (hch4.fr.cell (p := ⟨w1.heap.size + 1 + 1, 0, none⟩) (lt_of_cell hn0) hnF3).trans hn0
  have hn14 := (hch4.fr.cell (p := ⟨w1.heap.size + 1 + 1, 1, none⟩) (lt_of_cell hn1) hnF3).trans hn1
  have hn24 := (hch4.fr.cell (p := ⟨w1.heap.size + 1 + 1, 2, none⟩) (lt_of_cell hn2) hnF3).trans hn2
  have hn34 := (hch4.fr.cell (p := ⟨w1.heap.size + 1 + 1, 3, none⟩) (lt_of_cell hn3) hnF3).trans hn3
  have hn44 := (hch4.fr.cell (p := ⟨w1.heap.size + 1 + 1, 4, none⟩) (lt_of_cell hn4) hnF3).trans hn4
  have hn54 := (hch4.fr.cell (p := ⟨w1.heap.size + 1 + 1, 5, none⟩) (lt_of_cell hn5) hnF3).trans hn5
  have hn64 := (hch4.fr.cell (p := ⟨w1.heap.size + 1 + 1, 6, none⟩) (lt_of_cell hn6) hnF3).trans hn6
  have h14 : w4.cell? ⟨w1.heap.size, 1, none⟩ = some (.pointer (some ⟨b, 0, none⟩)) := (hch4.fr.cell (p := ⟨w1.heap.size, 1, none⟩) hl1 hcF3).trans h1
  have hrb4 : w4.heap[w.heap.size]? = some (.cells #[.int .u32 0, .int .u32 0, .int .u8 0, .int .u32 0, .int .u32 0, .slice none 0 0, .slice none 0 0] 33) := (hch4.fr.block w.heap.size (by omega) ((unhide H3).2.1.nF (by have := (unhide H2).2.2; omega) (unhide H3).2.2.2.2.2)).trans hrb3
  have HE := hide (done_any (q'.named n_end) b F3 E w4 hR4 (Q.named_ok (unhide H3).2.2.2.2.1 n_end) ((unhide H3).1.g7.fr hch4.fr (unhide H3).1.lo).gl)
  have hs4 : Stp w3 w4 F3 F3 (fun _ _ => False) := Stp.of_ch hch4 _
  have hf04 : Fr (fun _ => False) w w4 := (unhide H3).2.2.2.1.trans hch4.fr (fun k hk hx => by
    rcases (unhide H3).2.1.new k hx with h | h
    · have := (unhide H1).2.2 k h; omega
    · have := (unhide H1).2.1.size; have := (unhide H2).2.2; omega)
  have H4 := hide (And.intro hs4 hf04)
  clear hR4 hch4 hs4 hf04 hgF3 hnF3 hcF3
  go_wp2_with fail
  refine (unhide HE).mono ?_
  rintro e w5 ⟨err, rfl, hEr, hf5⟩
  have hrb5 : w5.heap[w.heap.size]? = some (.cells #[.int .u32 0, .int .u32 0, .int .u8 0, .int .u32 0, .int .u32 0, .slice none 0 0, .slice none 0 0] 33) := (hf5.block w.heap.size (by have := (unhide H4).1.size; have := (unhide H3).2.1.size; have := (unhide H2).2.2; omega) (fun h => h)).trans hrb4
  have hv05 := (hf5.cell (p := ⟨w1.heap.size + 1, 0, none⟩) (lt_of_cell hv04) (fun h => h)).trans hv04
  have hn05 := (hf5.cell (p := ⟨w1.heap.size + 1 + 1, 0, none⟩) (lt_of_cell hn04) (fun h => h)).trans hn04
  have hv15 := (hf5.cell (p := ⟨w1.heap.size + 1, 1, none⟩) (lt_of_cell hv14) (fun h => h)).trans hv14
  have hn15 := (hf5.cell (p := ⟨w1.heap.size + 1 + 1, 1, none⟩) (lt_of_cell hn14) (fun h => h)).trans hn14
  have hv25 := (hf5.cell (p := ⟨w1.heap.size + 1, 2, none⟩) (lt_of_cell hv24) (fun h => h)).trans hv24
  have hn25 := (hf5.cell (p := ⟨w1.heap.size + 1 + 1, 2, none⟩) (lt_of_cell hn24) (fun h => h)).trans hn24
  have hv35 := (hf5.cell (p := ⟨w1.heap.size + 1, 3, none⟩) (lt_of_cell hv34) (fun h => h)).trans hv34
  have hn35 := (hf5.cell (p := ⟨w1.heap.size + 1 + 1, 3, none⟩) (lt_of_cell hn34) (fun h => h)).trans hn34
  have hv45 := (hf5.cell (p := ⟨w1.heap.size + 1, 4, none⟩) (lt_of_cell hv44) (fun h => h)).trans hv44
  have hn45 := (hf5.cell (p := ⟨w1.heap.size + 1 + 1, 4, none⟩) (lt_of_cell hn44) (fun h => h)).trans hn44
  have hv55 := (hf5.cell (p := ⟨w1.heap.size + 1, 5, none⟩) (lt_of_cell hv54) (fun h => h)).trans hv54
  have hn55 := (hf5.cell (p := ⟨w1.heap.size + 1 + 1, 5, none⟩) (lt_of_cell hn54) (fun h => h)).trans hn54
  have hv65 := (hf5.cell (p := ⟨w1.heap.size + 1, 6, none⟩) (lt_of_cell hv64) (fun h => h)).trans hv64
  have hn65 := (hf5.cell (p := ⟨w1.heap.size + 1 + 1, 6, none⟩) (lt_of_cell hn64) (fun h => h)).trans hn64
  have hr05 : w5.cell? ⟨w.heap.size, 0, none⟩ = some (.int .u32 0) := by simp [World.cell?, hrb5]
  have hr15 : w5.cell? ⟨w.heap.size, 1, none⟩ = some (.int .u32 0) := by simp [World.cell?, hrb5]
  have hr25 : w5.cell? ⟨w.heap.size, 2, none⟩ = some (.int .u8 0) := by simp [World.cell?, hrb5]
  have hr35 : w5.cell? ⟨w.heap.size, 3, none⟩ = some (.int .u32 0) := by simp [World.cell?, hrb5]
  have hr45 : w5.cell? ⟨w.heap.size, 4, none⟩ = some (.int .u32 0) := by simp [World.cell?, hrb5]
  have hr55 : w5.cell? ⟨w.heap.size, 5, none⟩ = some (.slice none 0 0) := by simp [World.cell?, hrb5]
  have hr65 : w5.cell? ⟨w.heap.size, 6, none⟩ = some (.slice none 0 0) := by simp [World.cell?, hrb5]
  have hrz5 : ∀ i, w5.frozen? ⟨w.heap.size, i, none⟩ = false := fun i => by simp [World.frozen?, hrb5]
  have hrl5 := lt_of_cell hr05
  have hlv5 := lt_of_cell hv05
  have hln5 := lt_of_cell hn05
  have hnr1 : w1.heap.size + 1 ≠ w.heap.size := by omega
  have hnr2 : w1.heap.size + 1 + 1 ≠ w.heap.size := by omega
  have hsF : ∀ (i : Nat) v W, Fr (fun k => k = w.heap.size) w5 W → Fr (fun k => k = w.heap.size) w5 (W.setCell ⟨w.heap.size, i, none⟩ v) := fun i v W h => h.setCell (.inl rfl) v
  have H5 := hide (And.intro hf5 (hEr))
  rcases hEr with ⟨h0, rfl⟩ | ⟨h1', h7, fb, rfl, hb⟩
  · clear hf5
    go_wp2_with fail
    refine bodyPost_ret (v := .tuple #[.agg #[v0, v1, v2, v3, v4, v5, v6], .nilIface]) (by simp [results, Tryz.results82, go_sem, hr05, hr15, hr25, hr35, hr45, hr55, hr65]) rfl ?_
    have hfin : q'.fin.2.2 = 0 := h0
    refine ⟨_, _, rfl, .inl ⟨hfin, rfl⟩, fun h => absurd hfin h, fun _ => ⟨F3, w1.heap.size + 1, ?_, by omega⟩, ?_⟩
    · have hR5 := (unhide H).2.1 _ _ _ _ _ _ _ ((unhide H).2.1 _ _ _ _ _ _ _ (unhide H3).2.2.1 (unhide H4).1 (fun _ _ h => h.elim)) (Stp.of_fr (unhide H5).1 F3 (fun _ _ => False)) (fun _ _ h => h.elim)
      exact (unhide H).2.1 _ _ _ _ _ _ _ hR5 ((((((((Stp.refl w5 F3 (fun k _ => k = w.heap.size)).trans (Stp.set w.heap.size 0 _) (fun k j _ h => h.1)).trans (Stp.set w.heap.size 1 _) (fun k j _ h => h.1)).trans (Stp.set w.heap.size 2 _) (fun k j _ h => h.1)).trans (Stp.set w.heap.size 3 _) (fun k j _ h => h.1)).trans (Stp.set w.heap.size 4 _) (fun k j _ h => h.1)).trans (Stp.set w.heap.size 5 _) (fun k j _ h => h.1)).trans (Stp.set w.heap.size 6 _) (fun k j _ h => h.1)) (fun k j h => h)
    · exact ((((((((unhide H4).2.trans (unhide H5).1 (fun _ _ h => h)).setCell (.inr (Nat.le_refl _)) _).setCell (.inr (Nat.le_refl _)) _).setCell (.inr (Nat.le_refl _)) _).setCell (.inr (Nat.le_refl _)) _).setCell (.inr (Nat.le_refl _)) _).setCell (.inr (Nat.le_refl _)) _).setCell (.inr (Nat.le_refl _)) _
  · have hfb : fb ≠ w.heap.size := fun e => by rw [e, hrb5] at hb; simp [faultObj] at hb
    have HB5 := hide hb
    clear hf5 hb
    go_wp2_with fail
    refine bodyPost_ret (v := .tuple #[.agg #[.int .u32 0, .int .u32 0, .int .u8 0, .int .u32 0, .int .u32 0, .slice none 0 0, .slice none 0 0], .iface 85 (.pointer (some ⟨fb, 0, none⟩))]) (by simp [results, Tryz.results82, go_sem, hr05, hr15, hr25, hr35, hr45, hr55, hr65]) rfl ?_
    have hfin : q'.fin.2.2 ≠ 0 := fun e => by have : 1 ≤ q'.fin.2.2 := h1'; omega
    refine ⟨_, _, rfl, .inr ⟨h1', h7, fb, rfl, ?_⟩, fun _ => rfl, fun h => absurd h hfin, ?_⟩
    · rw [Below.heap_setCell _ _ _ _ hfb, Below.heap_setCell _ _ _ _ hfb, Below.heap_setCell _ _ _ _ hfb, Below.heap_setCell _ _ _ _ hfb, Below.heap_setCell _ _ _ _ hfb, Below.heap_setCell _ _ _ _ hfb, Below.heap_setCell _ _ _ _ hfb]
      exact unhide HB5
    · exact ((((((((unhide H4).2.trans (unhide H5).1 (fun _ _ h => h)).setCell (.inr (Nat.le_refl _)) _).setCell (.inr (Nat.le_refl _)) _).setCell (.inr (Nat.le_refl _)) _).setCell (.inr (Nat.le_refl _)) _).setCell (.inr (Nat.le_refl _)) _).setCell (.inr (Nat.le_refl _)) _).setCell (.inr (Nat.le_refl _)) _
set_option maxRecDepth 100000 in
set_option maxHeartbeats 2000000 in
/-- get. -/
theorem get_Event (x : Value) (l : List Nat) (q' : Q) (Res : World → (Nat → Prop) → Nat → Array Value → Prop) (E : Nat → Addr) (w : World) (hg : G6 w E) (hw : 9 ≤ w.heap.size) (hx : Src w x l) (hl : l.length ≤ 140737488355328)
    (hst : ∀ w2 w' F F' P g vs, Res w2 F g vs → Stp w2 w' F F' P → (∀ k j, P k j → k = w.heap.size) → Res w' F' g vs)
    (hwhole : ∀ w1 cb b F g, Cd w1 cb b F (.rd ⟨ByteArray.empty, l, 0, 0, none⟩) E → w1.cell? ⟨g, 0, none⟩ = some (.int .u32 0) → w1.cell? ⟨g, 1, none⟩ = some (.int .u32 0) → w1.cell? ⟨g, 2, none⟩ = some (.int .u32 0) → w1.cell? ⟨g, 3, none⟩ = some (.int .u32 0) → w1.cell? ⟨g, 4, none⟩ = some (.int .u8 0) → w1.cell? ⟨g, 5, none⟩ = some (.int .u32 0) → w1.cell? ⟨g, 6, none⟩ = some (.int .u32 0) → w1.cell? ⟨g, 7, none⟩ = some (.int .u32 0) → w1.cell? ⟨g, 8, none⟩ = some (.int .u32 0) → w1.cell? ⟨g, 9, none⟩ = some (.slice none 0 0) → w1.cell? ⟨g, 10, none⟩ = some (.string ⟨#[]⟩) → w1.cell? ⟨g, 11, none⟩ = some (.int .u8 0) → w1.cell? ⟨g, 12, none⟩ = some (.slice none 0 0) → (∀ i, Loc w1 cb F g i) → (∀ k, F k → w.heap.size < k) → w.heap.size < g → Fr (fun _ => False) w w1 → Calls Tryz.prog 74 #[.pointer (some ⟨cb, 0, none⟩), .iface 213 (.pointer (some ⟨g, 0, none⟩))] w1 fun e w' => e = .returned (.tuple #[]) ∧ ∃ F', Cd w' cb b F' (.rd q') E ∧ ∃ v0 v1 v2 v3 v4 v5 v6 v7 v8 v9 v10 v11 v12, w'.cell? ⟨g, 0, none⟩ = some v0 ∧ w'.cell? ⟨g, 1, none⟩ = some v1 ∧ w'.cell? ⟨g, 2, none⟩ = some v2 ∧ w'.cell? ⟨g, 3, none⟩ = some v3 ∧ w'.cell? ⟨g, 4, none⟩ = some v4 ∧ w'.cell? ⟨g, 5, none⟩ = some v5 ∧ w'.cell? ⟨g, 6, none⟩ = some v6 ∧ w'.cell? ⟨g, 7, none⟩ = some v7 ∧ w'.cell? ⟨g, 8, none⟩ = some v8 ∧ w'.cell? ⟨g, 9, none⟩ = some v9 ∧ w'.cell? ⟨g, 10, none⟩ = some v10 ∧ w'.cell? ⟨g, 11, none⟩ = some v11 ∧ w'.cell? ⟨g, 12, none⟩ = some v12 ∧ (∀ v ∈ ([v0, v1, v2, v3, v4, v5, v6, v7, v8, v9, v10, v11, v12] : List Value), v.oneCell' = true) ∧ Res w' F' g #[v0, v1, v2, v3, v4, v5, v6, v7, v8, v9, v10, v11, v12] ∧ Stp w1 w' F F' (fun k _ => k = g)) :
    Calls Tryz.prog 83 #[x] w fun e w' => ∃ vs err, e = .returned (.tuple #[.agg vs, err]) ∧ ErrV w' err q'.fin E ∧ (q'.fin.2.2 ≠ 0 → vs = #[.int .u32 0, .int .u32 0, .int .u32 0, .int .u32 0, .int .u8 0, .int .u32 0, .int .u32 0, .int .u32 0, .int .u32 0, .slice none 0 0, .string ⟨#[]⟩, .int .u8 0, .slice none 0 0]) ∧ (q'.fin.2.2 = 0 → ∃ F' g, Res w' F' g vs ∧ w.heap.size ≤ g) ∧ Fr (fun _ => False) w w' := by
  obtain ⟨xo, xc, rfl⟩ := hx.form
  have hbx := box1 w (.cells #[.int .u32 0, .int .u32 0, .int .u32 0, .int .u32 0, .int .u8 0, .int .u32 0, .int .u32 0, .int .u32 0, .int .u32 0, .slice none 0 0, .string ⟨#[]⟩, .int .u8 0, .slice none 0 0] 35)
  have HN := hide (newReader_any _ l (w.alloc (.cells #[.int .u32 0, .int .u32 0, .int .u32 0, .int .u32 0, .int .u8 0, .int .u32 0, .int .u32 0, .int .u32 0, .int .u32 0, .slice none 0 0, .string ⟨#[]⟩, .int .u8 0, .slice none 0 0] 35)) (by simp; omega) (hx.fr hbx (fun _ _ _ _ _ h => h)) hl)
  have H := hide (And.intro hg (And.intro hst hwhole))
  have HB := hide hbx
  clear hg hst hwhole hx hbx
  go_enter Tryz.func83, Tryz.ntmps83
  go_wp2_with fail
  refine (unhide HN).mono ?_
  rintro e w1 ⟨b, F, rfl, hR1, hf1', hF1'⟩
  have hf1 : Fr (fun _ => False) w w1 := (unhide HB).trans hf1' (fun _ _ h => h)
  have hF1 : ∀ k, F k → w.heap.size < k := fun k hk => by have := hF1' k hk; simp at this; omega
  have hr0 : w1.cell? ⟨w.heap.size, 0, none⟩ = some (.int .u32 0) := (hf1'.cell (p := ⟨w.heap.size, 0, none⟩) (by simp) (fun h => h)).trans (by simp)
  have hrz : ∀ i, w1.frozen? ⟨w.heap.size, i, none⟩ = false := fun i => (hf1'.frozen (p := ⟨w.heap.size, i, none⟩) (by simp) (fun h => h)).trans (by simp)
  have hrb : w1.heap[w.heap.size]? = some (.cells #[.int .u32 0, .int .u32 0, .int .u32 0, .int .u32 0, .int .u8 0, .int .u32 0, .int .u32 0, .int .u32 0, .int .u32 0, .slice none 0 0, .string ⟨#[]⟩, .int .u8 0, .slice none 0 0] 35) := (hf1'.block w.heap.size (by simp) (fun h => h)).trans (heap_alloc_new _ _)
  have hrl := lt_of_cell hr0
  clear hf1' hF1'
  have hbl := hR1.lt b hR1.fb
  have H1 := hide (And.intro hR1 (And.intro hf1 hF1))
  clear hR1 hf1 hF1
  go_wp2_with fail
  obtain ⟨W2, hW2⟩ : ∃ W2, ((w1.alloc (.cells #[.pointer none, .pointer (some ⟨b, 0, none⟩)] 144)).alloc (.cells #[.int .u32 0, .int .u32 0, .int .u32 0, .int .u32 0, .int .u8 0, .int .u32 0, .int .u32 0, .int .u32 0, .int .u32 0, .slice none 0 0, .string ⟨#[]⟩, .int .u8 0, .slice none 0 0] 35)).alloc (.cells #[.int .u32 0, .int .u32 0, .int .u32 0, .int .u32 0, .int .u8 0, .int .u32 0, .int .u32 0, .int .u32 0, .int .u32 0, .slice none 0 0, .string ⟨#[]⟩, .int .u8 0, .slice none 0 0] 35) = W2 := ⟨_, rfl⟩
  have hf12 : Fr (fun _ => False) w1 W2 := by rw [← hW2]; exact box3 _ _ _ _
  have HF12 := hide hf12
  have hf02 := (unhide H1).2.1.trans hf12 (fun _ _ h => h)
  have hsz2 : W2.heap.size = w1.heap.size + 3 := by rw [← hW2]; simp
  have hC2 : Cd W2 w1.heap.size b F (.rd ⟨ByteArray.empty, l, 0, 0, none⟩) E := by
    have hb1 := (unhide H1).1.lt
    have hw1 := (unhide H1).2.1.size
    refine ⟨(unhide H).1.fr hf02 (fun _ h => h.elim), fun hx => by have := hb1 _ hx; omega, fun k hk => by have := hb1 k hk; omega, (unhide H1).1.lo, by omega, ?_, ?_, ⟨(unhide H1).1.frame hf12 (fun _ _ h => h), ⟨Nat.zero_le _, Nat.zero_le _, fun y hy => by cases hy⟩, hl⟩, trivial⟩
    · rw [← hW2, World.cell?_alloc_past _ _ _ (by simp; omega), World.cell?_alloc_past _ _ _ (by simp), World.cell?_alloc_at _ _ _ _ (by simp)]; rfl
    · rw [← hW2, World.cell?_alloc_past _ _ _ (by simp; omega), World.cell?_alloc_past _ _ _ (by simp), World.cell?_alloc_at _ _ _ _ (by simp)]; rfl
  have hcs : ∀ (i : Nat) v, (#[.int .u32 0, .int .u32 0, .int .u32 0, .int .u32 0, .int .u8 0, .int .u32 0, .int .u32 0, .int .u32 0, .int .u32 0, .slice none 0 0, .string ⟨#[]⟩, .int .u8 0, .slice none 0 0] : Array Value)[i]? = some v → W2.cell? ⟨w1.heap.size + 1, i, none⟩ = some v := fun i v hv => by
    rw [← hW2, World.cell?_alloc_past _ _ _ (by simp), World.cell?_alloc_at _ _ _ _ (by simp)]; exact hv
  have hnn : ∀ (i : Nat) v, (#[.int .u32 0, .int .u32 0, .int .u32 0, .int .u32 0, .int .u8 0, .int .u32 0, .int .u32 0, .int .u32 0, .int .u32 0, .slice none 0 0, .string ⟨#[]⟩, .int .u8 0, .slice none 0 0] : Array Value)[i]? = some v → W2.cell? ⟨w1.heap.size + 1 + 1, i, none⟩ = some v := fun i v hv => by
    rw [← hW2, World.cell?_alloc_at _ _ _ _ (by simp)]; exact hv
  have hLo : ∀ i, Loc W2 w1.heap.size F (w1.heap.size + 1) i := fun i => by
    have hb1 := (unhide H1).1.lt
    have hw1 := (unhide H1).2.1.size
    exact ⟨(((by rw [← hW2]; exact box1 _ _) : Fr (fun _ => False) ((w1.alloc (.cells #[.pointer none, .pointer (some ⟨b, 0, none⟩)] 144)).alloc (.cells #[.int .u32 0, .int .u32 0, .int .u32 0, .int .u32 0, .int .u8 0, .int .u32 0, .int .u32 0, .int .u32 0, .int .u32 0, .slice none 0 0, .string ⟨#[]⟩, .int .u8 0, .slice none 0 0] 35)) W2).frozen (p := ⟨w1.heap.size + 1, i, none⟩) (by simp) (fun h => h)).trans (by simp), by omega, fun hx => by have := hb1 _ hx; omega, by omega, by omega⟩
  have HW := hide ((unhide H).2.2 W2 w1.heap.size b F (w1.heap.size + 1) hC2 (hcs 0 _ rfl) (hcs 1 _ rfl) (hcs 2 _ rfl) (hcs 3 _ rfl) (hcs 4 _ rfl) (hcs 5 _ rfl) (hcs 6 _ rfl) (hcs 7 _ rfl) (hcs 8 _ rfl) (hcs 9 _ rfl) (hcs 10 _ rfl) (hcs 11 _ rfl) (hcs 12 _ rfl) hLo (unhide H1).2.2 (by omega) hf02)
  have H2 := hide (And.intro hf02 (And.intro hnn hsz2))
  clear hC2 hf02 hLo hsz2 hcs hf12 hnn
  rw [hW2]
  clear hW2
  refine (unhide HW).mono ?_
  rintro e w3 ⟨rfl, F3, hC3, v0, v1, v2, v3, v4, v5, v6, v7, v8, v9, v10, v11, v12, hv0, hv1, hv2, hv3, hv4, hv5, hv6, hv7, hv8, hv9, hv10, hv11, hv12, hone, hRes, hs3⟩
  have hst0 : ∀ (a : Addr) (m : Mode) (W : World), (store a v0 m).run Tryz.prog W = stored Tryz.prog W a v0 m := fun _ _ _ => run_store _ _ _ _ _ (hone v0 (by simp))
  have hst1 : ∀ (a : Addr) (m : Mode) (W : World), (store a v1 m).run Tryz.prog W = stored Tryz.prog W a v1 m := fun _ _ _ => run_store _ _ _ _ _ (hone v1 (by simp))
  have hst2 : ∀ (a : Addr) (m : Mode) (W : World), (store a v2 m).run Tryz.prog W = stored Tryz.prog W a v2 m := fun _ _ _ => run_store _ _ _ _ _ (hone v2 (by simp))
  have hst3 : ∀ (a : Addr) (m : Mode) (W : World), (store a v3 m).run Tryz.prog W = stored Tryz.prog W a v3 m := fun _ _ _ => run_store _ _ _ _ _ (hone v3 (by simp))
  have hst4 : ∀ (a : Addr) (m : Mode) (W : World), (store a v4 m).run Tryz.prog W = stored Tryz.prog W a v4 m := fun _ _ _ => run_store _ _ _ _ _ (hone v4 (by simp))
  have hst5 : ∀ (a : Addr) (m : Mode) (W : World), (store a v5 m).run Tryz.prog W = stored Tryz.prog W a v5 m := fun _ _ _ => run_store _ _ _ _ _ (hone v5 (by simp))
  have hst6 : ∀ (a : Addr) (m : Mode) (W : World), (store a v6 m).run Tryz.prog W = stored Tryz.prog W a v6 m := fun _ _ _ => run_store _ _ _ _ _ (hone v6 (by simp))
  have hst7 : ∀ (a : Addr) (m : Mode) (W : World), (store a v7 m).run Tryz.prog W = stored Tryz.prog W a v7 m := fun _ _ _ => run_store _ _ _ _ _ (hone v7 (by simp))
  have hst8 : ∀ (a : Addr) (m : Mode) (W : World), (store a v8 m).run Tryz.prog W = stored Tryz.prog W a v8 m := fun _ _ _ => run_store _ _ _ _ _ (hone v8 (by simp))
  have hst9 : ∀ (a : Addr) (m : Mode) (W : World), (store a v9 m).run Tryz.prog W = stored Tryz.prog W a v9 m := fun _ _ _ => run_store _ _ _ _ _ (hone v9 (by simp))
  have hst10 : ∀ (a : Addr) (m : Mode) (W : World), (store a v10 m).run Tryz.prog W = stored Tryz.prog W a v10 m := fun _ _ _ => run_store _ _ _ _ _ (hone v10 (by simp))
  have hst11 : ∀ (a : Addr) (m : Mode) (W : World), (store a v11 m).run Tryz.prog W = stored Tryz.prog W a v11 m := fun _ _ _ => run_store _ _ _ _ _ (hone v11 (by simp))
  have hst12 : ∀ (a : Addr) (m : Mode) (W : World), (store a v12 m).run Tryz.prog W = stored Tryz.prog W a v12 m := fun _ _ _ => run_store _ _ _ _ _ (hone v12 (by simp))
  clear hone
  have h1 : w3.cell? ⟨w1.heap.size, 1, none⟩ = some (.pointer (some ⟨b, 0, none⟩)) := hC3.c1
  have hl1 := lt_of_cell h1
  obtain ⟨hf02, hnn, hsz2⟩ := unhide H2
  have hFb : ∀ k, F k → k < w1.heap.size := (unhide H1).1.lt
  have hne : ∀ i, w3.cell? ⟨w1.heap.size + 1 + 1, i, none⟩ = W2.cell? ⟨w1.heap.size + 1 + 1, i, none⟩ := fun i => hs3.oth (w1.heap.size + 1 + 1) i (by omega) (fun hx => by have := hFb _ hx; omega) (fun h => by omega)
  have hn0 := (hne 0).trans (hnn 0 _ rfl)
  have hn1 := (hne 1).trans (hnn 1 _ rfl)
  have hn2 := (hne 2).trans (hnn 2 _ rfl)
  have hn3 := (hne 3).trans (hnn 3 _ rfl)
  have hn4 := (hne 4).trans (hnn 4 _ rfl)
  have hn5 := (hne 5).trans (hnn 5 _ rfl)
  have hn6 := (hne 6).trans (hnn 6 _ rfl)
  have hn7 := (hne 7).trans (hnn 7 _ rfl)
  have hn8 := (hne 8).trans (hnn 8 _ rfl)
  have hn9 := (hne 9).trans (hnn 9 _ rfl)
  have hn10 := (hne 10).trans (hnn 10 _ rfl)
  have hn11 := (hne 11).trans (hnn 11 _ rfl)
  have hn12 := (hne 12).trans (hnn 12 _ rfl)
  have hrF : ¬ F w.heap.size := fun hx => by have := (unhide H1).2.2 _ hx; omega
  have hrb3 : w3.heap[w.heap.size]? = some (.cells #[.int .u32 0, .int .u32 0, .int .u32 0, .int .u32 0, .int .u8 0, .int .u32 0, .int .u32 0, .int .u32 0, .int .u32 0, .slice none 0 0, .string ⟨#[]⟩, .int .u8 0, .slice none 0 0] 35) := (hs3.block (by omega) hrF (fun i h => by omega)).trans ((unhide HF12).block _ hrl (fun h => h) |>.trans hrb)
  have hf03 : Fr (fun _ => False) w w3 := hf02.trans hs3.fr (fun k hk hx => hx.elim (fun hx => by have := (unhide H1).2.2 k hx; omega) (fun ⟨_, hx⟩ => by omega))
  have hst3 : R w3 b F3 (q'.rst E) ∧ q'.ok ∧ q'.all.length ≤ 140737488355328 := hC3.st
  have HD := hide (rName_step q' n_end b F3 E w3 hst3.1)
  have H3 := hide (And.intro hC3 (And.intro hs3 (And.intro hRes (And.intro hf03 (And.intro hst3.2.1 hrF)))))
  clear hC3 hs3 hRes hf03 hst3 hrF hf02 hnn hsz2 hFb hne
  go_wp2_with fail
  refine (unhide HD).mono ?_
  rintro e w4 ⟨rfl, hR4, hch4⟩
  have hgF3 := (unhide H3).2.1.nF (by have := (unhide H2).2.2; omega) (show ¬ F (w1.heap.size + 1) from fun hx => by have := (unhide H1).1.lt _ hx; omega)
  have hnF3 := (unhide H3).2.1.nF (by have := (unhide H2).2.2; omega) (show ¬ F (w1.heap.size + 1 + 1) from fun hx => by have := (unhide H1).1.lt _ hx; omega)
  have hcF3 := (unhide H3).1.nf
  have hv04 := (hch4.fr.cell (p := ⟨w1.heap.size + 1, 0, none⟩) (lt_of_cell hv0) hgF3).trans hv0
  have hv14 := (hch4.fr.cell (p := ⟨w1.heap.size + 1, 1, none⟩) (lt_of_cell hv1) hgF3).trans hv1
  have hv24 := (hch4.fr.cell (p := ⟨w1.heap.size + 1, 2, none⟩) (lt_of_cell hv2) hgF3).trans hv2
  have hv34 := (hch4.fr.cell (p := ⟨w1.heap.size + 1, 3, none⟩) (lt_of_cell hv3) hgF3).trans hv3
  have hv44 := (hch4.fr.cell (p := ⟨w1.heap.size + 1, 4, none⟩) (lt_of_cell hv4) hgF3).trans hv4
  have hv54 := (hch4.fr.cell (p := ⟨w1.heap.size + 1, 5, none⟩) (lt_of_cell hv5) hgF3).trans hv5
  have hv64 := (hch4.fr.cell (p := ⟨w1.heap.size + 1, 6, none⟩) (lt_of_cell hv6) hgF3).trans hv6
  have hv74 := (hch4.fr.cell (p := ⟨w1.heap.size + 1, 7, none⟩) (lt_of_cell hv7) hgF3).trans hv7
  have hv84 := (hch4.fr.cell (p := ⟨w1.heap.size + 1, 8, none⟩) (lt_of_cell hv8) hgF3).trans hv8
  have hv94 := (hch4.fr.cell (p := ⟨w1.heap.size + 1, 9, none⟩) (lt_of_cell hv9) hgF3).trans hv9
  have hv104 := (hch4.fr.cell (p := ⟨w1.heap.size + 1, 10, none⟩) (lt_of_cell hv10) hgF3).trans hv10
  have hv114 := (hch4.fr.cell (p := ⟨w1.heap.size + 1, 11, none⟩) (lt_of_cell hv11) hgF3).trans hv11
  have hv124 := (hch4.fr.cell (p := ⟨w1.heap.size + 1, 12, none⟩) (lt_of_cell hv12) hgF3).trans hv12
  have hn04 := (hch4.fr.cell (p := ⟨w1.heap.size + 1 + 1, 0, none⟩) (lt_of_cell hn0) hnF3).trans hn0
  have hn14 := (hch4.fr.cell (p := ⟨w1.heap.size + 1 + 1, 1, none⟩) (lt_of_cell hn1) hnF3).trans hn1
  have hn24 := (hch4.fr.cell (p := ⟨w1.heap.size + 1 + 1, 2, none⟩) (lt_of_cell hn2) hnF3).trans hn2
  have hn34 := (hch4.fr.cell (p := ⟨w1.heap.size + 1 + 1, 3, none⟩) (lt_of_cell hn3) hnF3).trans hn3
  have hn44 := (hch4.fr.cell (p := ⟨w1.heap.size + 1 + 1, 4, none⟩) (lt_of_cell hn4) hnF3).trans hn4
  have hn54 := (hch4.fr.cell (p := ⟨w1.heap.size + 1 + 1, 5, none⟩) (lt_of_cell hn5) hnF3).trans hn5
  have hn64 := (hch4.fr.cell (p := ⟨w1.heap.size + 1 + 1, 6, none⟩) (lt_of_cell hn6) hnF3).trans hn6
  have hn74 := (hch4.fr.cell (p := ⟨w1.heap.size + 1 + 1, 7, none⟩) (lt_of_cell hn7) hnF3).trans hn7
  have hn84 := (hch4.fr.cell (p := ⟨w1.heap.size + 1 + 1, 8, none⟩) (lt_of_cell hn8) hnF3).trans hn8
  have hn94 := (hch4.fr.cell (p := ⟨w1.heap.size + 1 + 1, 9, none⟩) (lt_of_cell hn9) hnF3).trans hn9
  have hn104 := (hch4.fr.cell (p := ⟨w1.heap.size + 1 + 1, 10, none⟩) (lt_of_cell hn10) hnF3).trans hn10
  have hn114 := (hch4.fr.cell (p := ⟨w1.heap.size + 1 + 1, 11, none⟩) (lt_of_cell hn11) hnF3).trans hn11
  have hn124 := (hch4.fr.cell (p := ⟨w1.heap.size + 1 + 1, 12, none⟩) (lt_of_cell hn12) hnF3).trans hn12
  have h14 : w4.cell? ⟨w1.heap.size, 1, none⟩ = some (.pointer (some ⟨b, 0, none⟩)) := (hch4.fr.cell (p := ⟨w1.heap.size, 1, none⟩) hl1 hcF3).trans h1
  have hrb4 : w4.heap[w.heap.size]? = some (.cells #[.int .u32 0, .int .u32 0, .int .u32 0, .int .u32 0, .int .u8 0, .int .u32 0, .int .u32 0, .int .u32 0, .int .u32 0, .slice none 0 0, .string ⟨#[]⟩, .int .u8 0, .slice none 0 0] 35) := (hch4.fr.block w.heap.size (by omega) ((unhide H3).2.1.nF (by have := (unhide H2).2.2; omega) (unhide H3).2.2.2.2.2)).trans hrb3
  have HE := hide (done_any (q'.named n_end) b F3 E w4 hR4 (Q.named_ok (unhide H3).2.2.2.2.1 n_end) ((unhide H3).1.g7.fr hch4.fr (unhide H3).1.lo).gl)
  have hs4 : Stp w3 w4 F3 F3 (fun _ _ => False) := Stp.of_ch hch4 _
  have hf04 : Fr (fun _ => False) w w4 := (unhide H3).2.2.2.1.trans hch4.fr (fun k hk hx => by
    rcases (unhide H3).2.1.new k hx with h | h
    · have := (unhide H1).2.2 k h; omega
    · have := (unhide H1).2.1.size; have := (unhide H2).2.2; omega)
  have H4 := hide (And.intro hs4 hf04)
  clear hR4 hch4 hs4 hf04 hgF3 hnF3 hcF3
  go_wp2_with fail
  refine (unhide HE).mono ?_
  rintro e w5 ⟨err, rfl, hEr, hf5⟩
  have hrb5 : w5.heap[w.heap.size]? = some (.cells #[.int .u32 0, .int .u32 0, .int .u32 0, .int .u32 0, .int .u8 0, .int .u32 0, .int .u32 0, .int .u32 0, .int .u32 0, .slice none 0 0, .string ⟨#[]⟩, .int .u8 0, .slice none 0 0] 35) := (hf5.block w.heap.size (by have := (unhide H4).1.size; have := (unhide H3).2.1.size; have := (unhide H2).2.2; omega) (fun h => h)).trans hrb4
  have hv05 := (hf5.cell (p := ⟨w1.heap.size + 1, 0, none⟩) (lt_of_cell hv04) (fun h => h)).trans hv04
  have hn05 := (hf5.cell (p := ⟨w1.heap.size + 1 + 1, 0, none⟩) (lt_of_cell hn04) (fun h => h)).trans hn04
  have hv15 := (hf5.cell (p := ⟨w1.heap.size + 1, 1, none⟩) (lt_of_cell hv14) (fun h => h)).trans hv14
  have hn15 := (hf5.cell (p := ⟨w1.heap.size + 1 + 1, 1, none⟩) (lt_of_cell hn14) (fun h => h)).trans hn14
  have hv25 := (hf5.cell (p := ⟨w1.heap.size + 1, 2, none⟩) (lt_of_cell hv24) (fun h => h)).trans hv24
  have hn25 := (hf5.cell (p := ⟨w1.heap.size + 1 + 1, 2, none⟩) (lt_of_cell hn24) (fun h => h)).trans hn24
  have hv35 := (hf5.cell (p := ⟨w1.heap.size + 1, 3, none⟩) (lt_of_cell hv34) (fun h => h)).trans hv34
  have hn35 := (hf5.cell (p := ⟨w1.heap.size + 1 + 1, 3, none⟩) (lt_of_cell hn34) (fun h => h)).trans hn34
  have hv45 := (hf5.cell (p := ⟨w1.heap.size + 1, 4, none⟩) (lt_of_cell hv44) (fun h => h)).trans hv44
  have hn45 := (hf5.cell (p := ⟨w1.heap.size + 1 + 1, 4, none⟩) (lt_of_cell hn44) (fun h => h)).trans hn44
  have hv55 := (hf5.cell (p := ⟨w1.heap.size + 1, 5, none⟩) (lt_of_cell hv54) (fun h => h)).trans hv54
  have hn55 := (hf5.cell (p := ⟨w1.heap.size + 1 + 1, 5, none⟩) (lt_of_cell hn54) (fun h => h)).trans hn54
  have hv65 := (hf5.cell (p := ⟨w1.heap.size + 1, 6, none⟩) (lt_of_cell hv64) (fun h => h)).trans hv64
  have hn65 := (hf5.cell (p := ⟨w1.heap.size + 1 + 1, 6, none⟩) (lt_of_cell hn64) (fun h => h)).trans hn64
  have hv75 := (hf5.cell (p := ⟨w1.heap.size + 1, 7, none⟩) (lt_of_cell hv74) (fun h => h)).trans hv74
  have hn75 := (hf5.cell (p := ⟨w1.heap.size + 1 + 1, 7, none⟩) (lt_of_cell hn74) (fun h => h)).trans hn74
  have hv85 := (hf5.cell (p := ⟨w1.heap.size + 1, 8, none⟩) (lt_of_cell hv84) (fun h => h)).trans hv84
  have hn85 := (hf5.cell (p := ⟨w1.heap.size + 1 + 1, 8, none⟩) (lt_of_cell hn84) (fun h => h)).trans hn84
  have hv95 := (hf5.cell (p := ⟨w1.heap.size + 1, 9, none⟩) (lt_of_cell hv94) (fun h => h)).trans hv94
  have hn95 := (hf5.cell (p := ⟨w1.heap.size + 1 + 1, 9, none⟩) (lt_of_cell hn94) (fun h => h)).trans hn94
  have hv105 := (hf5.cell (p := ⟨w1.heap.size + 1, 10, none⟩) (lt_of_cell hv104) (fun h => h)).trans hv104
  have hn105 := (hf5.cell (p := ⟨w1.heap.size + 1 + 1, 10, none⟩) (lt_of_cell hn104) (fun h => h)).trans hn104
  have hv115 := (hf5.cell (p := ⟨w1.heap.size + 1, 11, none⟩) (lt_of_cell hv114) (fun h => h)).trans hv114
  have hn115 := (hf5.cell (p := ⟨w1.heap.size + 1 + 1, 11, none⟩) (lt_of_cell hn114) (fun h => h)).trans hn114
  have hv125 := (hf5.cell (p := ⟨w1.heap.size + 1, 12, none⟩) (lt_of_cell hv124) (fun h => h)).trans hv124
  have hn125 := (hf5.cell (p := ⟨w1.heap.size + 1 + 1, 12, none⟩) (lt_of_cell hn124) (fun h => h)).trans hn124
  have hr05 : w5.cell? ⟨w.heap.size, 0, none⟩ = some (.int .u32 0) := by simp [World.cell?, hrb5]
  have hr15 : w5.cell? ⟨w.heap.size, 1, none⟩ = some (.int .u32 0) := by simp [World.cell?, hrb5]
  have hr25 : w5.cell? ⟨w.heap.size, 2, none⟩ = some (.int .u32 0) := by simp [World.cell?, hrb5]
  have hr35 : w5.cell? ⟨w.heap.size, 3, none⟩ = some (.int .u32 0) := by simp [World.cell?, hrb5]
  have hr45 : w5.cell? ⟨w.heap.size, 4, none⟩ = some (.int .u8 0) := by simp [World.cell?, hrb5]
  have hr55 : w5.cell? ⟨w.heap.size, 5, none⟩ = some (.int .u32 0) := by simp [World.cell?, hrb5]
  have hr65 : w5.cell? ⟨w.heap.size, 6, none⟩ = some (.int .u32 0) := by simp [World.cell?, hrb5]
  have hr75 : w5.cell? ⟨w.heap.size, 7, none⟩ = some (.int .u32 0) := by simp [World.cell?, hrb5]
  have hr85 : w5.cell? ⟨w.heap.size, 8, none⟩ = some (.int .u32 0) := by simp [World.cell?, hrb5]
  have hr95 : w5.cell? ⟨w.heap.size, 9, none⟩ = some (.slice none 0 0) := by simp [World.cell?, hrb5]
  have hr105 : w5.cell? ⟨w.heap.size, 10, none⟩ = some (.string ⟨#[]⟩) := by simp [World.cell?, hrb5]
  have hr115 : w5.cell? ⟨w.heap.size, 11, none⟩ = some (.int .u8 0) := by simp [World.cell?, hrb5]
  have hr125 : w5.cell? ⟨w.heap.size, 12, none⟩ = some (.slice none 0 0) := by simp [World.cell?, hrb5]
  have hrz5 : ∀ i, w5.frozen? ⟨w.heap.size, i, none⟩ = false := fun i => by simp [World.frozen?, hrb5]
  have hrl5 := lt_of_cell hr05
  have hlv5 := lt_of_cell hv05
  have hln5 := lt_of_cell hn05
  have hnr1 : w1.heap.size + 1 ≠ w.heap.size := by omega
  have hnr2 : w1.heap.size + 1 + 1 ≠ w.heap.size := by omega
  have hsF : ∀ (i : Nat) v W, Fr (fun k => k = w.heap.size) w5 W → Fr (fun k => k = w.heap.size) w5 (W.setCell ⟨w.heap.size, i, none⟩ v) := fun i v W h => h.setCell (.inl rfl) v
  have H5 := hide (And.intro hf5 (hEr))
  rcases hEr with ⟨h0, rfl⟩ | ⟨h1', h7, fb, rfl, hb⟩
  · clear hf5
    go_wp2_with fail
    refine bodyPost_ret (v := .tuple #[.agg #[v0, v1, v2, v3, v4, v5, v6, v7, v8, v9, v10, v11, v12], .nilIface]) (by simp [results, Tryz.results83, go_sem, hr05, hr15, hr25, hr35, hr45, hr55, hr65, hr75, hr85, hr95, hr105, hr115, hr125]) rfl ?_
    have hfin : q'.fin.2.2 = 0 := h0
    refine ⟨_, _, rfl, .inl ⟨hfin, rfl⟩, fun h => absurd hfin h, fun _ => ⟨F3, w1.heap.size + 1, ?_, by omega⟩, ?_⟩
    · have hR5 := (unhide H).2.1 _ _ _ _ _ _ _ ((unhide H).2.1 _ _ _ _ _ _ _ (unhide H3).2.2.1 (unhide H4).1 (fun _ _ h => h.elim)) (Stp.of_fr (unhide H5).1 F3 (fun _ _ => False)) (fun _ _ h => h.elim)
      exact (unhide H).2.1 _ _ _ _ _ _ _ hR5 ((((((((((((((Stp.refl w5 F3 (fun k _ => k = w.heap.size)).trans (Stp.set w.heap.size 0 _) (fun k j _ h => h.1)).trans (Stp.set w.heap.size 1 _) (fun k j _ h => h.1)).trans (Stp.set w.heap.size 2 _) (fun k j _ h => h.1)).trans (Stp.set w.heap.size 3 _) (fun k j _ h => h.1)).trans (Stp.set w.heap.size 4 _) (fun k j _ h => h.1)).trans (Stp.set w.heap.size 5 _) (fun k j _ h => h.1)).trans (Stp.set w.heap.size 6 _) (fun k j _ h => h.1)).trans (Stp.set w.heap.size 7 _) (fun k j _ h => h.1)).trans (Stp.set w.heap.size 8 _) (fun k j _ h => h.1)).trans (Stp.set w.heap.size 9 _) (fun k j _ h => h.1)).trans (Stp.set w.heap.size 10 _) (fun k j _ h => h.1)).trans (Stp.set w.heap.size 11 _) (fun k j _ h => h.1)).trans (Stp.set w.heap.size 12 _) (fun k j _ h => h.1)) (fun k j h => h)
    · exact ((((((((((((((unhide H4).2.trans (unhide H5).1 (fun _ _ h => h)).setCell (.inr (Nat.le_refl _)) _).setCell (.inr (Nat.le_refl _)) _).setCell (.inr (Nat.le_refl _)) _).setCell (.inr (Nat.le_refl _)) _).setCell (.inr (Nat.le_refl _)) _).setCell (.inr (Nat.le_refl _)) _).setCell (.inr (Nat.le_refl _)) _).setCell (.inr (Nat.le_refl _)) _).setCell (.inr (Nat.le_refl _)) _).setCell (.inr (Nat.le_refl _)) _).setCell (.inr (Nat.le_refl _)) _).setCell (.inr (Nat.le_refl _)) _).setCell (.inr (Nat.le_refl _)) _
  · have hfb : fb ≠ w.heap.size := fun e => by rw [e, hrb5] at hb; simp [faultObj] at hb
    have HB5 := hide hb
    clear hf5 hb
    go_wp2_with fail
    refine bodyPost_ret (v := .tuple #[.agg #[.int .u32 0, .int .u32 0, .int .u32 0, .int .u32 0, .int .u8 0, .int .u32 0, .int .u32 0, .int .u32 0, .int .u32 0, .slice none 0 0, .string ⟨#[]⟩, .int .u8 0, .slice none 0 0], .iface 85 (.pointer (some ⟨fb, 0, none⟩))]) (by simp [results, Tryz.results83, go_sem, hr05, hr15, hr25, hr35, hr45, hr55, hr65, hr75, hr85, hr95, hr105, hr115, hr125]) rfl ?_
    have hfin : q'.fin.2.2 ≠ 0 := fun e => by have : 1 ≤ q'.fin.2.2 := h1'; omega
    refine ⟨_, _, rfl, .inr ⟨h1', h7, fb, rfl, ?_⟩, fun _ => rfl, fun h => absurd h hfin, ?_⟩
    · rw [Below.heap_setCell _ _ _ _ hfb, Below.heap_setCell _ _ _ _ hfb, Below.heap_setCell _ _ _ _ hfb, Below.heap_setCell _ _ _ _ hfb, Below.heap_setCell _ _ _ _ hfb, Below.heap_setCell _ _ _ _ hfb, Below.heap_setCell _ _ _ _ hfb, Below.heap_setCell _ _ _ _ hfb, Below.heap_setCell _ _ _ _ hfb, Below.heap_setCell _ _ _ _ hfb, Below.heap_setCell _ _ _ _ hfb, Below.heap_setCell _ _ _ _ hfb, Below.heap_setCell _ _ _ _ hfb]
      exact unhide HB5
    · exact ((((((((((((((unhide H4).2.trans (unhide H5).1 (fun _ _ h => h)).setCell (.inr (Nat.le_refl _)) _).setCell (.inr (Nat.le_refl _)) _).setCell (.inr (Nat.le_refl _)) _).setCell (.inr (Nat.le_refl _)) _).setCell (.inr (Nat.le_refl _)) _).setCell (.inr (Nat.le_refl _)) _).setCell (.inr (Nat.le_refl _)) _).setCell (.inr (Nat.le_refl _)) _).setCell (.inr (Nat.le_refl _)) _).setCell (.inr (Nat.le_refl _)) _).setCell (.inr (Nat.le_refl _)) _).setCell (.inr (Nat.le_refl _)) _).setCell (.inr (Nat.le_refl _)) _
end Go.Proofs.YtcpbmphknonflaaGreatDoor

