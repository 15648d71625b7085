import Derived.Test.YtdcopmkgmbiikaaGreatDoorPw3
import Derived.Test.YtdcopmkgmbiikaaGreatDoorPw2
namespace Go.Proofs.YtdcopmkgmbiikaaGreatDoor
open Go.RowKit
theorem units_any (w : World) : Calls Tryz.prog 176 #[] w fun e w' => e = .returned (.int .i64 21) ∧ Fr (fun _ => False) w w' := by
 go_enter Tryz.func176, Tryz.ntmps176
 go_wp2_with fail
 go_ret
 exact ⟨rfl, Fr.refl _ _⟩
theorem Knew.mono {w w1 : World} {K : Nat → Prop} (h : Knew w1 K) (hs : w.heap.size ≤ w1.heap.size) : Knew w K := fun k hk => (h k hk).imp (fun h => by omega) id
def RR {α : Type} (en : World → Value → α → Prop) (w w' : World) (E : Nat → Addr) (fv : Value) (r : α → Nat) : Prop := ∃ K0, FnR en w' K0 fv E r ∧ Knew w K0
theorem RR.fr {α : Type} {en : World → Value → α → Prop} {w w1 w' : World} {E : Nat → Addr} {fv : Value} {r : α → Nat} (h : RR en w w1 E fv r) (hf : Fr (fun _ => False) w1 w') : RR en w w' E fv r := by
 obtain ⟨K0, h1, h2⟩ := h
 exact ⟨K0, h1.mono (fun k hk => hf.block k (h1.lt k hk) (fun h => h)) (fun _ h => h) (fun k hk => Nat.lt_of_lt_of_le (h1.lt k hk) hf.size), h2⟩
theorem ruc_one2 {α : Type} {en : World → Value → α → Prop} {w w1 : World} {cb b g i : Nat} {F : Nat → Prop} {c : CS} {E : Nat → Addr} {r1 : α → Nat} {f1 : Value} (T : TypeId) (h : Cd w cb b F c E) (hL : Loc w cb F g i) (hf : Fr (fun _ => False) w w1) (h1 : RR en w w1 E f1 r1) :
  RuC en (w1.alloc (.cells #[f1] T)) F g (.slice (some ⟨w1.heap.size, 0, none⟩) 1 1) E [r1] := by
 obtain ⟨K1, hF1, hK1⟩ := h1
 exact ruc_one T h hL hF1 hf hK1
theorem ruc_two {α : Type} {en : World → Value → α → Prop} {w w1 : World} {cb b g i : Nat} {F : Nat → Prop} {c : CS} {E : Nat → Addr} {r1 r2 : α → Nat} {f1 f2 : Value} (T : TypeId) (h : Cd w cb b F c E) (hL : Loc w cb F g i) (hf : Fr (fun _ => False) w w1) (h1 : RR en w w1 E f1 r1) (h2 : RR en w w1 E f2 r2) :
  RuC en (w1.alloc (.cells #[f1, f2] T)) F g (.slice (some ⟨w1.heap.size, 0, none⟩) 2 2) E [r1, r2] := by
 have hb := box1 w1 (.cells #[f1, f2] T)
 obtain ⟨K1, hF1, hK1⟩ := h1
 obtain ⟨K2, hF2, hK2⟩ := h2
 have hlt : ∀ k, (K1 k ∨ K2 k ∨ k = w1.heap.size) → k < (w1.alloc (.cells #[f1, f2] T)).heap.size := fun k hk => by
  rcases hk with hk | hk | rfl
  ·exact Nat.lt_of_lt_of_le (hF1.lt k hk) hb.size
  ·exact Nat.lt_of_lt_of_le (hF2.lt k hk) hb.size
  ·simp
 refine ⟨⟨fun k => K1 k ∨ K2 k ∨ k = w1.heap.size, ⟨hlt, ⟨_, _, rfl⟩, fun _ _ _ e => .inr ⟨w1.heap.size, 0, by cases e; rfl⟩, fun xo n c' e j r' hr => ?_⟩, fun k hk => ?_⟩, by simp⟩
 ·have ex : xo = some ⟨w1.heap.size, 0, none⟩ := by cases e; rfl
  rcases j with _ | _ | j
  ·obtain rfl : r1 = r' := by simpa using hr
   exact ⟨w1.heap.size, 0, f1, ex, .inr (.inr rfl), by simp, hF1.mono (fun k hk => hb.block k (hF1.lt k hk) (fun h => h)) (fun _ h => .inl h) hlt⟩
  ·obtain rfl : r2 = r' := by simpa using hr
   exact ⟨w1.heap.size, 0, f2, ex, .inr (.inr rfl), by simp, hF2.mono (fun k hk => hb.block k (hF2.lt k hk) (fun h => h)) (fun _ h => .inr (.inl h)) hlt⟩
  ·simp at hr
 ·rcases hk with hk | hk | rfl
  ·exact knew_apart h hL hK1 k hk
  ·exact knew_apart h hL hK2 k hk
  ·have h1 := hf.size
   have h2 := hL.lt
   exact ⟨fun hx => by have := h.lt _ hx; omega, by omega⟩
theorem kpC {w V : World} (hf : Fr (fun _ => False) w V) {p : Addr} {v : Value} (h : w.cell? p = some v) : V.cell? p = some v := (hf.cell (p := p) (ltC h) (fun h => h)).trans h
def CS.pField (c : CS) (last : Nat) (f : Fld) : CS × Fld :=
 if (c.pU8 n_kind [wiN 1 last 5, unN f.beside] f.kind).2 = 1 then
  (((c.pU8 n_kind [wiN 1 last 5, unN f.beside] f.kind).1.pStr n_text 64 [fun v => szN 0 64 v.size] f.text).1, { f with kind := 1, text := ((c.pU8 n_kind [wiN 1 last 5, unN f.beside] f.kind).1.pStr n_text 64 [fun v => szN 0 64 v.size] f.text).2 })
 else if (c.pU8 n_kind [wiN 1 last 5, unN f.beside] f.kind).2 = 2 then
  ((((c.pU8 n_kind [wiN 1 last 5, unN f.beside] f.kind).1.pF32 n_value [] f.value).1.pU8 n_unit [wiN 1 21 4] f.unit).1, { f with kind := 2, value := ((c.pU8 n_kind [wiN 1 last 5, unN f.beside] f.kind).1.pF32 n_value [] f.value).2, unit := (((c.pU8 n_kind [wiN 1 last 5, unN f.beside] f.kind).1.pF32 n_value [] f.value).1.pU8 n_unit [wiN 1 21 4] f.unit).2 })
 else ((c.pU8 n_kind [wiN 1 last 5, unN f.beside] f.kind).1, { f with kind := (c.pU8 n_kind [wiN 1 last 5, unN f.beside] f.kind).2 })
structure FlC (w : World) (g : Nat) (f : Fld) : Prop where
 c0 : w.cell? ⟨g, 0, none⟩ = some (.string f.name)
 c1 : w.cell? ⟨g, 1, none⟩ = some (.int .u8 (f.kind : Nat))
 c2 : w.cell? ⟨g, 2, none⟩ = some (.string f.text)
 c3 : w.cell? ⟨g, 3, none⟩ = some (.float .f32 f.value)
 c4 : w.cell? ⟨g, 4, none⟩ = some (.int .u8 (f.unit : Nat))
set_option maxHeartbeats 2000000 in
set_option maxRecDepth 100000 in
theorem field_any (c : CS) (f : Fld) (last cb b g : Nat) (F : Nat → Prop) (E : Nat → Addr) (w : World) (h : Cd w cb b F c E) (hp : FlC w g f) (hL : ∀ i, Loc w cb F g i) (hf : f.ok) (hroom : c.room 3) :
  Calls Tryz.prog 155 #[.pointer (some ⟨cb, 0, none⟩), .pointer (some ⟨g, 0, none⟩), .int .u8 (last : Nat)] w fun e w' => e = .returned (.tuple #[]) ∧ ∃ F', Cd w' cb b F' (c.pField last f).1 E ∧ FlC w' g (c.pField last f).2 ∧ (c.pField last f).2.ok ∧ Stp w w' F F' (cellsAt g 0 5) := by
 obtain ⟨p0, p1, p2, p3, p4⟩ := hp
 have k5 := h.g7.k5
 have hsf := st_func
 have HK := hid (fun (V : World) (hv : Fr (fun _ => False) w V) => And.intro (kpC hv p0) (And.intro (kpC hv p1) (And.intro (kpC hv p2) (And.intro (kpC hv p3) (And.intro (kpC hv p4) (kpC hv k5))))))
 have H := hid (And.intro h hL)
 have HN : Hid (∀ (w3 : World) (f1 f2 : Value) (T : TypeId), Fr (fun _ => False) w w3 → RR enU8 w w3 E f1 (wiN 1 last 5) → RR enU8 w w3 E f2 (unN f.beside) → Calls Tryz.prog 127 #[.pointer (some ⟨cb, 0, none⟩), .string n_kind, .pointer (some ⟨g, 1, none⟩), .slice (some ⟨w3.heap.size, 0, none⟩) 2 2] (w3.alloc (.cells #[f1, f2] T)) fun e w' => e = .returned (.tuple #[]) ∧ ∃ F', Cd w' cb b F' (c.pU8 n_kind [wiN 1 last 5, unN f.beside] f.kind).1 E ∧ w'.cell? ⟨g, 1, none⟩ = some (.int .u8 ((c.pU8 n_kind [wiN 1 last 5, unN f.beside] f.kind).2 : Nat)) ∧ Stp w w' F F' (fun k j => k = g ∧ j = 1)) := fun w3 f1 f2 T hf3 h1 h2 => by
  have hf2 := hf3.trans (box1 w3 (.cells #[f1, f2] T)) (fun _ _ h => h)
  refine (number_u8 c n_kind [wiN 1 last 5, unN f.beside] f.kind cb b g 1 F E _ _ (h.fr0 hf2) (kpC hf2 p1) ((hL 1).fr0 hf2) hf.kind (ruc_two T h (hL 1) hf3 h1 h2) (by simp only [CS.room] at *; omega)).mono ?_
  rintro e w' ⟨rfl, F', hC, hc, hs⟩
  exact ⟨rfl, F', hC, hc, (Stp.of_fr hf2 F _).trans hs (fun _ _ _ h => h)⟩
 have HR := hid hroom
 have HF := hid hf
 have HKU := hid (CS.pU8_lt c n_kind [wiN 1 last 5, unN f.beside] f.kind hf.kind)
 have HRM := hid (CS.pU8_room (n := 2) hroom n_kind [wiN 1 last 5, unN f.beside] f.kind)
 obtain ⟨c1, hc1⟩ : ∃ c1, (c.pU8 n_kind [wiN 1 last 5, unN f.beside] f.kind).1 = c1 := ⟨_, rfl⟩
 obtain ⟨kd, hkd⟩ : ∃ kd, (c.pU8 n_kind [wiN 1 last 5, unN f.beside] f.kind).2 = kd := ⟨_, rfl⟩
 have HP : Hid (c.pField last f = if kd = 1 then ((c1.pStr n_text 64 [fun v => szN 0 64 v.size] f.text).1, { f with kind := 1, text := (c1.pStr n_text 64 [fun v => szN 0 64 v.size] f.text).2 }) else if kd = 2 then (((c1.pF32 n_value [] f.value).1.pU8 n_unit [wiN 1 21 4] f.unit).1, { f with kind := 2, value := (c1.pF32 n_value [] f.value).2, unit := ((c1.pF32 n_value [] f.value).1.pU8 n_unit [wiN 1 21 4] f.unit).2 }) else (c1, { f with kind := kd })) := by
  rw [← hc1, ← hkd]
  rfl
 rw [hc1, hkd] at HN
 rw [hkd] at HKU
 rw [hc1] at HRM
 generalize c.pField last f = r at *
 have hlg := (hL 0).lt
 have hgF := (hL 0).nF
 clear h hL hroom hc1 hkd hf k5 p0 p1 p2 p3 p4
 go_enter Tryz.func155, Tryz.ntmps155
 go_wp2_with fail
 refine wp_region_last (n := 13) (m := 13) (S := fun V => Fr (fun _ => False) w V) (by kernel_rfl) rfl rfl rfl (by kernel_rfl) (by kernel_rfl) ((Fr.refl _ _).drew) (fun hHeld => ?_)
 refine wtk (i := 0) (v := ?_) rfl (Or.inl ⟨by rfl, ?_⟩) hHeld ?_
 rotate_left
 ·intro V hSw; (try dsimp only at hSw); obtain ⟨q0, q1, q2, q3, q4, q5⟩ := (uh HK) V hSw; go_simp; (try with_reducible rfl)
 (try simp only [Act.put, nrm])
 refine wtk (i := 1) (v := ?_) rfl (Or.inl ⟨by rfl, ?_⟩) hHeld ?_
 rotate_left
 ·intro V hSw; (try dsimp only at hSw); obtain ⟨q0, q1, q2, q3, q4, q5⟩ := (uh HK) V hSw; go_simp; (try with_reducible rfl)
 (try simp only [Act.put, nrm])
 refine wtk (i := 2) (v := ?_) rfl (Or.inl ⟨by rfl, ?_⟩) hHeld ?_
 rotate_left
 ·intro V hSw; (try dsimp only at hSw); obtain ⟨q0, q1, q2, q3, q4, q5⟩ := (uh HK) V hSw; go_simp; (try with_reducible rfl)
 (try simp only [Act.put, nrm])
 refine wtk (i := 3) (v := ?_) rfl (Or.inl ⟨by rfl, ?_⟩) hHeld ?_
 rotate_left
 ·intro V hSw; (try dsimp only at hSw); obtain ⟨q0, q1, q2, q3, q4, q5⟩ := (uh HK) V hSw; go_simp; (try with_reducible rfl)
 (try simp only [Act.put, nrm])
 refine wtk (i := 4) (v := ?_) rfl (Or.inl ⟨by rfl, ?_⟩) hHeld ?_
 rotate_left
 ·intro V hSw; (try dsimp only at hSw); obtain ⟨q0, q1, q2, q3, q4, q5⟩ := (uh HK) V hSw; go_simp; (try with_reducible rfl)
 (try simp only [Act.put, nrm])
 refine wtk (i := 5) (v := ?_) rfl (Or.inl ⟨by rfl, ?_⟩) hHeld ?_
 rotate_left
 ·intro V hSw; (try dsimp only at hSw); obtain ⟨q0, q1, q2, q3, q4, q5⟩ := (uh HK) V hSw; go_simp; (try with_reducible rfl)
 (try simp only [Act.put, nrm])
 refine wtk (i := 7) (v := ?_) rfl (Or.inl ⟨by rfl, ?_⟩) hHeld ?_
 rotate_left
 ·intro V hSw; (try dsimp only at hSw); obtain ⟨q0, q1, q2, q3, q4, q5⟩ := (uh HK) V hSw; go_simp; (try with_reducible rfl)
 (try simp only [Act.put, nrm])
 refine wtk (i := 8) (v := ?_) rfl (Or.inl ⟨by rfl, ?_⟩) hHeld ?_
 rotate_left
 ·intro V hSw; (try dsimp only at hSw); obtain ⟨q0, q1, q2, q3, q4, q5⟩ := (uh HK) V hSw; go_simp; (try with_reducible rfl)
 (try simp only [Act.put, nrm])
 refine wtk (i := 9) (v := ?_) rfl (Or.inl ⟨by rfl, ?_⟩) hHeld ?_
 rotate_left
 ·intro V hSw; (try dsimp only at hSw); obtain ⟨q0, q1, q2, q3, q4, q5⟩ := (uh HK) V hSw; go_simp; (try with_reducible rfl)
 (try simp only [Act.put, nrm])
 refine wpAnyH_ready (rs := [6]) (by kernel_rfl) (by simp) (AllReadyH.cons rfl (fun K hK => ?_) AllReadyH.nil)
 go_simp
 refine (within_u8 1 last 5 E _ (by decide)).mono ?_
 rintro e w1 ⟨fv1, rfl, K1, hF1, hf1, hK1⟩
 have H1 := hid (And.intro (show RR enU8 w w1 E fv1 (wiN 1 last 5) from ⟨K1, hF1, hK1.mono (Nat.le_refl _)⟩) ((Fr.refl _ _).drew.trans hf1 (fun _ _ h => h)))
 obtain ⟨Fc1, caps1, rfl, _⟩ := hF1.ex
 clear hF1 hf1 hK1
 go_simp
 refine hK.out _ _ ((uh H1).2) (fun hHeld => ?_)
 clear hK K
 (try simp only [Act.put, nrm])
 refine wpAnyH_ready (rs := [10]) (by kernel_rfl) (by simp) (AllReadyH.cons rfl (fun K hK => ?_) AllReadyH.nil)
 go_simp
 refine (fieldBeside_any f _ (uh HF)).mono ?_
 rintro e w2 ⟨rfl, hf2⟩
 have H2 := hid (And.intro ((uh H1).1.fr hf2) ((uh H1).2.trans hf2 (fun _ _ h => h)))
 clear hf2 H1
 go_simp
 refine hK.out _ _ ((uh H2).2) (fun hHeld => ?_)
 clear hK K
 (try simp only [Act.put, nrm])
 refine wpAnyH_ready (rs := [11]) (by kernel_rfl) (by simp) (AllReadyH.cons rfl (fun K hK => ?_) AllReadyH.nil)
 go_simp
 refine (unless_any f.beside E _ ((uh H).1.g7.fr (uh H2).2 (fun _ h => h.elim))).mono ?_
 rintro e w3 ⟨fv3, rfl, K3, hF3, hf3, hK3⟩
 have H3 := hid (And.intro ((uh H2).1.fr hf3) (And.intro (show RR enU8 w w3 E fv3 (unN f.beside) from ⟨K3, hF3, hK3.mono (uh H2).2.size⟩) ((uh H2).2.trans hf3 (fun _ _ h => h))))
 obtain ⟨Fc3, caps3, rfl, _⟩ := hF3.ex
 clear hF3 hf3 hK3 H2
 go_simp
 refine hK.out _ _ ((uh H3).2.2) (fun hHeld => ?_)
 clear hK K
 (try simp only [Act.put, nrm])
 refine wpAnyH_ready (rs := [12]) (by kernel_rfl) (by simp) (AllReadyH.cons rfl (fun K hK => ?_) AllReadyH.nil)
 go_simp
 refine hK.out _ _ ((uh H3).2.2.alloc _) (fun hHeld => ?_)
 clear hK K
 (try simp only [Act.put, nrm])
 refine wpAnyH_done (by kernel_rfl) ?_ _
 simp only [lastQ]
 go_simp
 refine ((uh HN) w3 _ _ _ (uh H3).2.2 (uh H3).1 (uh H3).2.1).mono ?_
 rintro e w4 ⟨rfl, F4, hC4, hk4, hs4⟩
 obtain ⟨p0, p1, p2, p3, p4, k5⟩ := (uh HK) w (Fr.refl _ _)
 have r0 : w4.cell? ⟨g, 0, none⟩ = some (.string f.name) := (hs4.oth g 0 hlg hgF (fun h => by omega)).trans p0
 have r2 : w4.cell? ⟨g, 2, none⟩ = some (.string f.text) := (hs4.oth g 2 hlg hgF (fun h => by omega)).trans p2
 have r3 : w4.cell? ⟨g, 3, none⟩ = some (.float .f32 f.value) := (hs4.oth g 3 hlg hgF (fun h => by omega)).trans p3
 have r4 : w4.cell? ⟨g, 4, none⟩ = some (.int .u8 (f.unit : Nat)) := (hs4.oth g 4 hlg hgF (fun h => by omega)).trans p4
 have hL4 := fun i => ((uh H).2 i).stp hs4
 have hku := uh HKU
 have H4 := hid (And.intro hC4 (And.intro hk4 (And.intro hs4 (And.intro r0 (And.intro r2 (And.intro r3 (And.intro r4 hL4)))))))
 clear hC4 hs4 hL4 r0 r2 r3 r4 p0 p1 p2 p3 p4 k5 H3 HN HKU hsf
 by_cases k1 : kd = 1
 ·subst k1
  have hr := uh HP
  rw [if_pos rfl] at hr
  have HP1 := hid hr
  clear hr HP
  obtain ⟨hC4, _, hs4, r0, r2, r3, r4, hL4⟩ := uh H4
  have HT := hid (run_str c1 n_text 0 64 [] f.text cb b g 2 F4 E (.slice none 0 0) w4 hC4 r2 (hL4 2) (uh HF).text (by decide) (RuC.nil _ w4 F4 g E) (by decide) (by have := uh HRM; simp only [CS.room] at *; omega))
  clear hC4 hs4 r0 r2 r3 r4 hL4
  go_wp2_with fail
  refine (uh HT).mono ?_
  rintro e w5 ⟨rfl, F5, hC5, hc5, hs5⟩
  obtain ⟨hC4, hk4', hs4, r0, r2, r3, r4, hL4⟩ := uh H4
  have hlg4 := (hL4 0).lt
  have hgF4 := (hL4 0).nF
  have hr := uh HP1
  have HE : Hid (Cd w5 cb b F5 r.1 E ∧ FlC w5 g r.2 ∧ r.2.ok ∧ Stp w w5 F F5 (cellsAt g 0 5)) := by
   rw [hr]
   exact ⟨hC5, ⟨(hs5.oth g 0 hlg4 hgF4 (fun h => by omega)).trans r0, (hs5.oth g 1 hlg4 hgF4 (fun h => by omega)).trans hk4', hc5, (hs5.oth g 3 hlg4 hgF4 (fun h => by omega)).trans r3, (hs5.oth g 4 hlg4 hgF4 (fun h => by omega)).trans r4⟩, ⟨(uh HF).name, (by decide : (1 : Nat) < 256), CS.pStr_lt hC4 _ _ _ _ (uh HF).text, (uh HF).value, (uh HF).unit⟩, (hs4.mono (fun k j _ h => ⟨h.1, by omega, by omega⟩)).trans hs5 (fun k j _ h => ⟨h.1, by omega, by omega⟩)⟩
  clear hC4 hk4' hs4 r0 r2 r3 r4 hL4 hC5 hc5 hs5 hr H4
  go_wp2_with fail
  go_end0
  exact ⟨rfl, F5, (uh HE).1, (uh HE).2.1, (uh HE).2.2.1, (uh HE).2.2.2⟩
 ·by_cases k2 : kd = 2
  ·subst k2
   have hr := uh HP
   rw [if_neg (by decide), if_pos rfl] at hr
   have HP1 := hid hr
   clear hr HP
   obtain ⟨hC4, _, hs4, r0, r2, r3, r4, hL4⟩ := uh H4
   have HT := hid (number_f32 c1 n_value [] f.value cb b g 3 F4 E (.slice none 0 0) w4 hC4 r3 (hL4 3) (uh HF).value (RuC.nil _ w4 F4 g E) (by have := uh HRM; simp only [CS.room] at *; omega))
   clear hC4 hs4 r0 r2 r3 r4 hL4 k1
   go_wp2_with fail
   refine (uh HT).mono ?_
   rintro e w5 ⟨rfl, F5, hC5, hc5, hs5⟩
   obtain ⟨hC4, hk4', hs4, r0, r2, r3, r4, hL4⟩ := uh H4
   have hlg4 := (hL4 0).lt
   have hgF4 := (hL4 0).nF
   have hL5 := fun i => (hL4 i).stp hs5
   have t0 : w5.cell? ⟨g, 0, none⟩ = some (.string f.name) := (hs5.oth g 0 hlg4 hgF4 (fun h => by omega)).trans r0
   have t1 : w5.cell? ⟨g, 1, none⟩ = some (.int .u8 2) := (hs5.oth g 1 hlg4 hgF4 (fun h => by omega)).trans hk4'
   have t2 : w5.cell? ⟨g, 2, none⟩ = some (.string f.text) := (hs5.oth g 2 hlg4 hgF4 (fun h => by omega)).trans r2
   have t4 : w5.cell? ⟨g, 4, none⟩ = some (.int .u8 (f.unit : Nat)) := (hs5.oth g 4 hlg4 hgF4 (fun h => by omega)).trans r4
   have k4 := hC5.g7.k4
   have HK5 := hid (fun (V : World) (hv : Fr (fun _ => False) w5 V) => kpC hv k4)
   have hrm := CS.pF32_room (n := 1) (uh HRM) n_value [] f.value
   have HN5 : Hid (∀ (w7 : World) (f1 : Value) (T : TypeId), Fr (fun _ => False) w5 w7 → RR enU8 w5 w7 E f1 (wiN 1 21 4) → Calls Tryz.prog 127 #[.pointer (some ⟨cb, 0, none⟩), .string n_unit, .pointer (some ⟨g, 4, none⟩), .slice (some ⟨w7.heap.size, 0, none⟩) 1 1] (w7.alloc (.cells #[f1] T)) fun e w' => e = .returned (.tuple #[]) ∧ ∃ F', Cd w' cb b F' ((c1.pF32 n_value [] f.value).1.pU8 n_unit [wiN 1 21 4] f.unit).1 E ∧ w'.cell? ⟨g, 4, none⟩ = some (.int .u8 (((c1.pF32 n_value [] f.value).1.pU8 n_unit [wiN 1 21 4] f.unit).2 : Nat)) ∧ Stp w5 w' F5 F' (fun k j => k = g ∧ j = 4)) := fun w7 f1 T hf7 h1 => by
    have hf2 := hf7.trans (box1 w7 (.cells #[f1] T)) (fun _ _ h => h)
    refine (number_u8 _ n_unit [wiN 1 21 4] f.unit cb b g 4 F5 E _ _ (hC5.fr0 hf2) (kpC hf2 t4) ((hL5 4).fr0 hf2) (uh HF).unit (ruc_one2 T hC5 (hL5 4) hf7 h1) hrm).mono ?_
    rintro e w' ⟨rfl, F', hC, hc, hs⟩
    exact ⟨rfl, F', hC, hc, (Stp.of_fr hf2 F5 _).trans hs (fun _ _ _ h => h)⟩
   have H5 := hid (And.intro t0 (And.intro t1 (And.intro t2 (And.intro hc5 (And.intro hL5 ((hs4.mono (P' := cellsAt g 0 5) (fun k j _ h => ⟨h.1, by omega, by omega⟩)).trans hs5 (fun k j _ h => ⟨h.1, by omega, by omega⟩)))))))
   have hsf := st_func
   clear hC4 hk4' hs4 r0 r2 r3 r4 hL4 hC5 hc5 hs5 H4 t0 t1 t2 t4 k4 hL5 hlg4 hgF4 hrm hk4
   go_wp2_with fail
   refine wp_region_last (n := 9) (m := 9) (S := fun V => Fr (fun _ => False) w5 V) (by kernel_rfl) rfl rfl rfl (by kernel_rfl) (by kernel_rfl) ((Fr.refl _ _).drew) (fun hHeld => ?_)
   refine wtk (i := 0) (v := ?_) rfl (Or.inl ⟨by rfl, ?_⟩) hHeld ?_
   rotate_left
   ·intro V hSw; (try dsimp only at hSw); have q4 := (uh HK5) V hSw; go_simp; (try with_reducible rfl)
   (try simp only [Act.put, nrm])
   refine wtk (i := 1) (v := ?_) rfl (Or.inl ⟨by rfl, ?_⟩) hHeld ?_
   rotate_left
   ·intro V hSw; (try dsimp only at hSw); have q4 := (uh HK5) V hSw; go_simp; (try with_reducible rfl)
   (try simp only [Act.put, nrm])
   refine wtk (i := 2) (v := ?_) rfl (Or.inl ⟨by rfl, ?_⟩) hHeld ?_
   rotate_left
   ·intro V hSw; (try dsimp only at hSw); have q4 := (uh HK5) V hSw; go_simp; (try with_reducible rfl)
   (try simp only [Act.put, nrm])
   refine wtk (i := 3) (v := ?_) rfl (Or.inl ⟨by rfl, ?_⟩) hHeld ?_
   rotate_left
   ·intro V hSw; (try dsimp only at hSw); have q4 := (uh HK5) V hSw; go_simp; (try with_reducible rfl)
   (try simp only [Act.put, nrm])
   refine wtk (i := 6) (v := ?_) rfl (Or.inl ⟨by rfl, ?_⟩) hHeld ?_
   rotate_left
   ·intro V hSw; (try dsimp only at hSw); have q4 := (uh HK5) V hSw; go_simp; (try with_reducible rfl)
   (try simp only [Act.put, nrm])
   refine wpAnyH_ready (rs := [4]) (by kernel_rfl) (by simp) (AllReadyH.cons rfl (fun K hK => ?_) AllReadyH.nil)
   go_simp
   refine (units_any _).mono ?_
   rintro e w6 ⟨rfl, hf6⟩
   have H6 := hid ((Fr.refl _ _).drew.trans hf6 (fun _ _ h => h))
   clear hf6
   go_simp
   refine hK.out _ _ (uh H6) (fun hHeld => ?_)
   clear hK K
   (try simp only [Act.put, nrm])
   refine wtk (i := 5) (v := ?_) rfl (Or.inl ⟨by rfl, ?_⟩) hHeld ?_
   rotate_left
   ·intro V hSw; (try dsimp only at hSw); have q4 := (uh HK5) V hSw; go_simp; (try with_reducible rfl)
   (try simp only [Act.put, nrm])
   refine wpAnyH_ready (rs := [7]) (by kernel_rfl) (by simp) (AllReadyH.cons rfl (fun K hK => ?_) AllReadyH.nil)
   go_simp
   refine (within_u8 1 21 4 E _ (by decide)).mono ?_
   rintro e w7 ⟨fv7, rfl, K7, hF7, hf7, hK7⟩
   have H7 := hid (And.intro (show RR enU8 w5 w7 E fv7 (wiN 1 21 4) from ⟨K7, hF7, hK7.mono (uh H6).size⟩) ((uh H6).trans hf7 (fun _ _ h => h)))
   obtain ⟨Fc7, caps7, rfl, _⟩ := hF7.ex
   clear hF7 hf7 hK7
   go_simp
   refine hK.out _ _ ((uh H7).2) (fun hHeld => ?_)
   clear hK K
   (try simp only [Act.put, nrm])
   refine wpAnyH_ready (rs := [8]) (by kernel_rfl) (by simp) (AllReadyH.cons rfl (fun K hK => ?_) AllReadyH.nil)
   go_simp
   refine hK.out _ _ ((uh H7).2.alloc _) (fun hHeld => ?_)
   clear hK K
   (try simp only [Act.put, nrm])
   refine wpAnyH_done (by kernel_rfl) ?_ _
   simp only [lastQ]
   go_simp
   refine ((uh HN5) w7 _ _ (uh H7).2 (uh H7).1).mono ?_
   rintro e w8 ⟨rfl, F8, hC8, hc8, hs8⟩
   obtain ⟨t0, t1, t2, hc5, hL5, hs05⟩ := uh H5
   have hlg5 := (hL5 0).lt
   have hgF5 := (hL5 0).nF
   have hr := uh HP1
   have HE : Hid (Cd w8 cb b F8 r.1 E ∧ FlC w8 g r.2 ∧ r.2.ok ∧ Stp w w8 F F8 (cellsAt g 0 5)) := by
    rw [hr]
    exact ⟨hC8, ⟨(hs8.oth g 0 hlg5 hgF5 (fun h => by omega)).trans t0, (hs8.oth g 1 hlg5 hgF5 (fun h => by omega)).trans t1, (hs8.oth g 2 hlg5 hgF5 (fun h => by omega)).trans t2, (hs8.oth g 3 hlg5 hgF5 (fun h => by omega)).trans hc5, hc8⟩, ⟨(uh HF).name, (by decide : (2 : Nat) < 256), (uh HF).text, CS.pF32_lt _ _ _ _ (uh HF).value, CS.pU8_lt _ _ _ _ (uh HF).unit⟩, hs05.trans hs8 (fun k j _ h => ⟨h.1, by omega, by omega⟩)⟩
   clear t0 t1 t2 hc5 hL5 hs05 hC8 hc8 hs8 hr H5 HN5 H7
   go_wp2_with fail
   go_end0
   exact ⟨rfl, F8, (uh HE).1, (uh HE).2.1, (uh HE).2.2.1, (uh HE).2.2.2⟩
  ·have m1 : ((kd : Int) == 1) = false := by simp; omega
   have m2 : ((kd : Int) == 2) = false := by simp; omega
   obtain ⟨hC4, hk4', hs4, r0, r2, r3, r4, hL4⟩ := uh H4
   have hr := uh HP
   rw [if_neg k1, if_neg k2] at hr
   have HE : Hid (Cd w4 cb b F4 r.1 E ∧ FlC w4 g r.2 ∧ r.2.ok ∧ Stp w w4 F F4 (cellsAt g 0 5)) := by
    rw [hr]
    exact ⟨hC4, ⟨r0, hk4', r2, r3, r4⟩, ⟨(uh HF).name, hku, (uh HF).text, (uh HF).value, (uh HF).unit⟩, hs4.mono (fun k j _ h => ⟨h.1, by omega, by omega⟩)⟩
   clear hC4 hk4' hs4 r0 r2 r3 r4 hL4 hr H4 k1 k2
   go_wp2_with fail
   go_end0
   exact ⟨rfl, F4, (uh HE).1, (uh HE).2.1, (uh HE).2.2.1, (uh HE).2.2.2⟩
theorem CS.pField_name (c : CS) (last : Nat) (f : Fld) : (c.pField last f).2.name = f.name := by
 unfold CS.pField
 split
 ·rfl
 ·split <;> rfl
def CS.pNamed (c : CS) (ahead : ByteArray) (last : Nat) (f : Fld) : CS × Fld := (c.pStr n_name 64 [fun v => szN 1 64 v.size, abN ahead] f.name).1.pField last { f with name := (c.pStr n_name 64 [fun v => szN 1 64 v.size, abN ahead] f.name).2 }
theorem CS.pStr_room2 {c : CS} {n : Nat} (h : c.room (n + 1)) (nm : ByteArray) (lo : Int) (rs : List (ByteArray → Nat)) (v : ByteArray) : (c.pStr nm 64 ((fun v => szN lo 64 v.size) :: rs) v).1.room n :=
 CS.pStr_room h nm 64 _ v (fun e => by have := szN_fit rs lo 64 (fun v : ByteArray => v.size) v e; omega)
set_option maxHeartbeats 2000000 in
set_option maxRecDepth 100000 in
theorem fields1_any (c : CS) (f : Fld) (ahead : ByteArray) (last cb b g kc ka kl : Nat) (F : Nat → Prop) (E : Nat → Addr) (w : World) (h : Cd w cb b F c E) (hp : FlC w g f) (hL : ∀ i, Loc w cb F g i) (hkc : w.cell? ⟨kc, 0, none⟩ = some (.pointer (some ⟨cb, 0, none⟩))) (hka : w.cell? ⟨ka, 0, none⟩ = some (.string ahead)) (hkl : w.cell? ⟨kl, 0, none⟩ = some (.int .u8 (last : Nat))) (nc : ¬ F kc ∧ kc ≠ g ∧ kc ≠ ka) (na : Loc w cb F ka 0 ∧ ka ≠ g) (nl : ¬ F kl ∧ kl ≠ g ∧ kl ≠ ka) (hf : f.ok) (hroom : c.room 4) :
  Calls Tryz.prog 153 #[.pointer (some ⟨g, 0, none⟩), .pointer (some ⟨kc, 0, none⟩), .pointer (some ⟨ka, 0, none⟩), .pointer (some ⟨kl, 0, none⟩)] w fun e w' => e = .returned (.tuple #[]) ∧ ∃ F', Cd w' cb b F' (c.pNamed ahead last f).1 E ∧ FlC w' g (c.pNamed ahead last f).2 ∧ (c.pNamed ahead last f).2.ok ∧ w'.cell? ⟨ka, 0, none⟩ = some (.string (c.pNamed ahead last f).2.name) ∧ Stp w w' F F' (fun k j => cellsAt g 0 5 k j ∨ (k = ka ∧ j = 0)) := by
 have hsf := st_func
 have HK := hid (fun (V : World) (hv : Fr (fun _ => False) w V) => And.intro (kpC hv hkc) (kpC hv hka))
 have H := hid (And.intro h (And.intro hL (And.intro hp (And.intro hkc (And.intro hka (And.intro hkl (And.intro nc (And.intro na nl))))))))
 have HN : Hid (∀ (w3 : World) (f1 : Value) (T : TypeId), Fr (fun _ => False) w w3 → RR enStr w w3 E f1 (abN ahead) → Calls Tryz.prog 135 #[.pointer (some ⟨cb, 0, none⟩), .string n_name, .pointer (some ⟨g, 0, none⟩), .int .i64 1, .int .i64 64, .slice (some ⟨w3.heap.size, 0, none⟩) 1 1] (w3.alloc (.cells #[f1] T)) fun e w' => e = .returned (.tuple #[]) ∧ ∃ F', Cd w' cb b F' (c.pStr n_name 64 [fun v => szN 1 64 v.size, abN ahead] f.name).1 E ∧ w'.cell? ⟨g, 0, none⟩ = some (.string (c.pStr n_name 64 [fun v => szN 1 64 v.size, abN ahead] f.name).2) ∧ Stp w w' F F' (fun k j => k = g ∧ j = 0)) := fun w3 f1 T hf3 h1 => by
  have hf2 := hf3.trans (box1 w3 (.cells #[f1] T)) (fun _ _ h => h)
  refine (run_str c n_name 1 64 [abN ahead] f.name cb b g 0 F E _ _ (h.fr0 hf2) (kpC hf2 hp.c0) ((hL 0).fr0 hf2) hf.name (by decide) (ruc_one2 T h (hL 0) hf3 h1) (by simp) (by simp only [CS.room] at *; omega)).mono ?_
  rintro e w' ⟨rfl, F', hC, hc, hs⟩
  exact ⟨rfl, F', hC, hc, (Stp.of_fr hf2 F _).trans hs (fun _ _ _ h => h)⟩
 have HRM := hid (CS.pStr_room2 (n := 3) hroom n_name 1 [abN ahead] f.name)
 have HOK : Hid (({ f with name := (c.pStr n_name 64 [fun v => szN 1 64 v.size, abN ahead] f.name).2 } : Fld).ok) := ⟨CS.pStr_lt h n_name 64 _ f.name hf.name, hf.kind, hf.text, hf.value, hf.unit⟩
 have HP : Hid (c.pNamed ahead last f = (c.pStr n_name 64 [fun v => szN 1 64 v.size, abN ahead] f.name).1.pField last { f with name := (c.pStr n_name 64 [fun v => szN 1 64 v.size, abN ahead] f.name).2 }) := rfl
 generalize c.pNamed ahead last f = r at *
 generalize (c.pStr n_name 64 [fun v => szN 1 64 v.size, abN ahead] f.name).1 = c1 at *
 generalize (c.pStr n_name 64 [fun v => szN 1 64 v.size, abN ahead] f.name).2 = nmv at *
 clear h hL hp hkc hka hkl nc na nl hroom hf
 go_enter Tryz.func153, Tryz.ntmps153
 go_wp2_with fail
 refine wp_region_last (n := 7) (m := 7) (S := fun V => Fr (fun _ => False) w V) (by kernel_rfl) rfl rfl rfl (by kernel_rfl) (by kernel_rfl) ((Fr.refl _ _).drew) (fun hHeld => ?_)
 refine wtk (i := 0) (v := ?_) rfl (Or.inl ⟨by rfl, ?_⟩) hHeld ?_
 rotate_left
 ·intro V hSw; (try dsimp only at hSw); obtain ⟨q0, q1⟩ := (uh HK) V hSw; go_simp; (try with_reducible rfl)
 (try simp only [Act.put, nrm])
 refine wtk (i := 1) (v := ?_) rfl (Or.inl ⟨by rfl, ?_⟩) hHeld ?_
 rotate_left
 ·intro V hSw; (try dsimp only at hSw); obtain ⟨q0, q1⟩ := (uh HK) V hSw; go_simp; (try with_reducible rfl)
 (try simp only [Act.put, nrm])
 refine wtk (i := 2) (v := ?_) rfl (Or.inl ⟨by rfl, ?_⟩) hHeld ?_
 rotate_left
 ·intro V hSw; (try dsimp only at hSw); obtain ⟨q0, q1⟩ := (uh HK) V hSw; go_simp; (try with_reducible rfl)
 (try simp only [Act.put, nrm])
 refine wtk (i := 3) (v := ?_) rfl (Or.inl ⟨by rfl, ?_⟩) hHeld ?_
 rotate_left
 ·intro V hSw; (try dsimp only at hSw); obtain ⟨q0, q1⟩ := (uh HK) V hSw; go_simp; (try with_reducible rfl)
 (try simp only [Act.put, nrm])
 refine wtk (i := 4) (v := ?_) rfl (Or.inl ⟨by rfl, ?_⟩) hHeld ?_
 rotate_left
 ·intro V hSw; (try dsimp only at hSw); obtain ⟨q0, q1⟩ := (uh HK) V hSw; go_simp; (try with_reducible rfl)
 (try simp only [Act.put, nrm])
 refine wpAnyH_ready (rs := [5]) (by kernel_rfl) (by simp) (AllReadyH.cons rfl (fun K hK => ?_) AllReadyH.nil)
 go_simp
 refine (above_any ahead E _ ((uh H).1.g7.fr (Fr.refl (fun _ => False) _).drew (fun _ h => h.elim))).mono ?_
 rintro e w1 ⟨fv1, rfl, K1, hF1, hf1, hK1⟩
 have H1 := hid (And.intro (show RR enStr w w1 E fv1 (abN ahead) from ⟨K1, hF1, hK1.mono (Nat.le_refl _)⟩) ((Fr.refl _ _).drew.trans hf1 (fun _ _ h => h)))
 obtain ⟨Fc1, caps1, rfl, _⟩ := hF1.ex
 clear hF1 hf1 hK1
 go_simp
 refine hK.out _ _ ((uh H1).2) (fun hHeld => ?_)
 clear hK K
 (try simp only [Act.put, nrm])
 refine wpAnyH_ready (rs := [6]) (by kernel_rfl) (by simp) (AllReadyH.cons rfl (fun K hK => ?_) AllReadyH.nil)
 go_simp
 refine hK.out _ _ ((uh H1).2.alloc _) (fun hHeld => ?_)
 clear hK K
 (try simp only [Act.put, nrm])
 refine wpAnyH_done (by kernel_rfl) ?_ _
 simp only [lastQ]
 go_simp
 refine ((uh HN) w1 _ _ (uh H1).2 (uh H1).1).mono ?_
 rintro e w4 ⟨rfl, F4, hC4, hk4, hs4⟩
 obtain ⟨h, hL, hp, hkc, hka, hkl, nc, na, nl⟩ := uh H
 have hlg := (hL 0).lt
 have hgF := (hL 0).nF
 have p4 : FlC w4 g { f with name := nmv } := ⟨hk4, (hs4.oth g 1 hlg hgF (fun h => by omega)).trans hp.c1, (hs4.oth g 2 hlg hgF (fun h => by omega)).trans hp.c2, (hs4.oth g 3 hlg hgF (fun h => by omega)).trans hp.c3, (hs4.oth g 4 hlg hgF (fun h => by omega)).trans hp.c4⟩
 have hL4 := fun i => (hL i).stp hs4
 have kc4 : w4.cell? ⟨kc, 0, none⟩ = some (.pointer (some ⟨cb, 0, none⟩)) := (hs4.oth kc 0 (ltC hkc) nc.1 (fun h => nc.2.1 h.1)).trans hkc
 have ka4 : w4.cell? ⟨ka, 0, none⟩ = some (.string ahead) := (hs4.oth ka 0 (ltC hka) na.1.nF (fun h => na.2 h.1)).trans hka
 have kl4 : w4.cell? ⟨kl, 0, none⟩ = some (.int .u8 (last : Nat)) := (hs4.oth kl 0 (ltC hkl) nl.1 (fun h => nl.2.1 h.1)).trans hkl
 have HFD := hid (field_any c1 { f with name := nmv } last cb b g F4 E w4 hC4 p4 hL4 (uh HOK) (uh HRM))
 have H4 := hid (And.intro hs4 (And.intro hL4 (And.intro ka4 (na.1.stp hs4))))
 clear h hL hp hkc hka hkl nc nl hC4 hs4 p4 hL4 ka4 hk4 hlg hgF H1 HN HK hsf
 go_wp2_with fail
 refine (uh HFD).mono ?_
 rintro e w5 ⟨rfl, F5, hC5, hp5, hok5, hs5⟩
 have hr := uh HP
 have hn5 : (c1.pField last { f with name := nmv }).2.name = nmv := CS.pField_name _ _ _
 have c5 : w5.cell? ⟨g, 0, none⟩ = some (.string nmv) := by rw [hp5.c0, hn5]
 obtain ⟨hs4, hL4, ka4, hA4⟩ := uh H4
 have hka4 := ltC ka4
 have a5 : w5.cell? ⟨ka, 0, none⟩ = some (.string ahead) := (hs5.oth ka 0 hka4 hA4.nF (fun h => na.2 h.1)).trans ka4
 have hA5 := hA4.stp hs5
 have fz5 := hA5.fz
 have HE : Hid (∀ V, V = w5.setCell ⟨ka, 0, none⟩ (.string nmv) → Cd V cb b F5 r.1 E ∧ FlC V g r.2 ∧ r.2.ok ∧ V.cell? ⟨ka, 0, none⟩ = some (.string r.2.name) ∧ Stp w V F F5 (fun k j => cellsAt g 0 5 k j ∨ (k = ka ∧ j = 0))) := by
  rintro V rfl
  rw [hr]
  have hoth : ∀ i, (w5.setCell ⟨ka, 0, none⟩ (.string nmv)).cell? ⟨g, i, none⟩ = w5.cell? ⟨g, i, none⟩ := fun i => World.cell?_setCell_other _ _ _ _ (by intro e; injection e with e1 _ _; exact na.2 e1)
  refine ⟨hC5.fr ((Fr.refl (fun k => k = ka) _).setCell (.inl rfl) _) (fun k hk e => hA5.nF (e ▸ hk)) (fun e => hA5.nc e.symm) (fun k e => by rw [e]; exact hA5.lo), ⟨(hoth 0).trans hp5.c0, (hoth 1).trans hp5.c1, (hoth 2).trans hp5.c2, (hoth 3).trans hp5.c3, (hoth 4).trans hp5.c4⟩, hok5, ?_, ?_⟩
  ·rw [hn5]; exact World.cell?_setCell_same _ _ _ a5
  ·exact ((hs4.mono (fun k j _ h => .inl ⟨h.1, by omega, by omega⟩)).trans hs5 (fun k j _ h => .inl h)).trans (Stp.set ka 0 _) (fun k j _ h => .inr h)
 clear hC5 hp5 hs5 hok5 hr hn5 hs4 hL4 ka4 hA4 hA5 H4 HFD HP na
 go_wp2_with fail
 go_end0
 obtain ⟨e1, e2, e3, e4, e5⟩ := (uh HE) _ rfl
 exact ⟨rfl, F5, e1, e2, e3, e4, e5⟩
def lpW {σ α : Type} (each : σ → α → σ × α) : σ → List α → σ
  | s, [] => s
  | s, x :: xs => lpW each (each s x).1 xs
theorem lpW_snoc {σ α : Type} (each : σ → α → σ × α) (xs : List α) : ∀ (s : σ) (x : α), lpW each s (xs ++ [x]) = (each (lpW each s xs) x).1 := by
  induction xs with
  | nil => intro s x; rfl
  | cons y ys ih => intro s x; exact ih _ x
theorem lpW_succ {σ α : Type} (each : σ → α → σ × α) (s : σ) (xs : List α) (k : Nat) (x : α) (h : xs[k]? = some x) : lpW each s (xs.take (k + 1)) = (each (lpW each s (xs.take k)) x).1 := by
  rw [List.take_add_one, h, Option.toList_some, lpW_snoc]
def lpR {σ α : Type} (each : σ → α → σ × α) (z : α) : Nat → σ → σ × List α
  | 0, s => (s, [])
  | n + 1, s => ((each (lpR each z n s).1 z).1, (lpR each z n s).2 ++ [(each (lpR each z n s).1 z).2])
theorem lpR_len {σ α : Type} (each : σ → α → σ × α) (z : α) (s : σ) (n : Nat) : (lpR each z n s).2.length = n := by
  induction n with
  | zero => rfl
  | succ n ih => simp [lpR, ih]
theorem CS.room_le {c : CS} {n m : Nat} (h : c.room n) (hm : m ≤ n) : c.room m := by
  simp only [CS.room] at *
  omega
theorem CS.pField_room {c : CS} {n : Nat} (h : c.room (n + 3)) (last : Nat) (f : Fld) : (c.pField last f).1.room n := by
  have h1 := CS.pU8_room (n := n + 2) h n_kind [wiN 1 last 5, unN f.beside] f.kind
  unfold CS.pField
  split
  · exact CS.room_le (CS.pStr_room2 (n := n + 1) h1 n_text 0 [] f.text) (by omega)
  · split
    · exact CS.pU8_room (CS.pF32_room h1 _ _ _) _ _ _
    · exact CS.room_le h1 (by omega)
theorem CS.pNamed_room {c : CS} {n : Nat} (h : c.room (n + 4)) (ahead : ByteArray) (last : Nat) (f : Fld) : (c.pNamed ahead last f).1.room n := CS.pField_room (CS.pStr_room2 (n := n + 3) h _ _ _ _) _ _
theorem CS.pField_wr (s : Wq) (last : Nat) (f : Fld) : ∃ s', ((CS.wr s).pField last f).1 = .wr s' := by
  unfold CS.pField
  split
  · exact ⟨_, rfl⟩
  · split
    · exact ⟨_, rfl⟩
    · exact ⟨_, rfl⟩
theorem CS.pField_rd (q : Q) (last : Nat) (f : Fld) : ∃ q', ((CS.rd q).pField last f).1 = .rd q' := by
  unfold CS.pField
  split
  · exact ⟨_, rfl⟩
  · split
    · exact ⟨_, rfl⟩
    · exact ⟨_, rfl⟩
theorem CS.pNamed_wr (s : Wq) (ahead : ByteArray) (last : Nat) (f : Fld) : ∃ s', ((CS.wr s).pNamed ahead last f).1 = .wr s' := CS.pField_wr _ _ _
theorem CS.pNamed_rd (q : Q) (ahead : ByteArray) (last : Nat) (f : Fld) : ∃ q', ((CS.rd q).pNamed ahead last f).1 = .rd q' := CS.pField_rd _ _ _
theorem cOB {w : World} {b o t : Nat} {cs : Array Value} {v : Value} (h : w.heap[b]? = some (.cells cs t)) (hv : cs[o]? = some v) : w.cell? ⟨b, o, none⟩ = some v := by
  simp [World.cell?, h, hv]
def eachF (last : Nat) (s : CS × ByteArray) (f : Fld) : (CS × ByteArray) × Fld := (((s.1.pNamed s.2 last f).1, (s.1.pNamed s.2 last f).2.name), (s.1.pNamed s.2 last f).2)
structure FdV (w : World) (xo : Option Addr) (xc : Nat) (l : List Fld) (F : Nat → Prop) : Prop where
  cap : l.length ≤ xc
  el : ∀ (j : Nat) f, l[j]? = some f → f.ok ∧ ∃ g o, xo = some ⟨g, o, none⟩ ∧ ¬ F g ∧ w.cell? ⟨g, o + j * 5, none⟩ = some (.string f.name) ∧ w.cell? ⟨g, o + j * 5 + 1, none⟩ = some (.int .u8 (f.kind : Nat)) ∧ w.cell? ⟨g, o + j * 5 + 2, none⟩ = some (.string f.text) ∧ w.cell? ⟨g, o + j * 5 + 3, none⟩ = some (.float .f32 f.value) ∧ w.cell? ⟨g, o + j * 5 + 4, none⟩ = some (.int .u8 (f.unit : Nat))
theorem FdV.stp {w w' : World} {xo : Option Addr} {xc : Nat} {l : List Fld} {F F' : Nat → Prop} {P : Nat → Nat → Prop} (h : FdV w xo xc l F) (hs : Stp w w' F F' P) (hP : ∀ g o, xo = some ⟨g, o, none⟩ → ∀ i, g < w.heap.size → ¬ P g i) : FdV w' xo xc l F' := by
  refine ⟨h.cap, fun j f hf => ?_⟩
  obtain ⟨h0, g, o, h1, h2, h3, h4, h5, h6, h7⟩ := h.el j f hf
  have hlt : g < w.heap.size := ltC h3
  have hp := fun i => hP g o h1 i hlt
  exact ⟨h0, g, o, h1, hs.nF hlt h2, (hs.oth g _ hlt h2 (hp _)).trans h3, (hs.oth g _ hlt h2 (hp _)).trans h4, (hs.oth g _ hlt h2 (hp _)).trans h5, (hs.oth g _ hlt h2 (hp _)).trans h6, (hs.oth g _ hlt h2 (hp _)).trans h7⟩
structure Cl3 (w : World) (cb kc ka kl : Nat) (F : Nat → Prop) (ahead : ByteArray) (last : Nat) : Prop where
  c : w.cell? ⟨kc, 0, none⟩ = some (.pointer (some ⟨cb, 0, none⟩))
  a : w.cell? ⟨ka, 0, none⟩ = some (.string ahead)
  l : w.cell? ⟨kl, 0, none⟩ = some (.int .u8 (last : Nat))
  nc : ¬ F kc ∧ kc ≠ ka
  nl : ¬ F kl ∧ kl ≠ ka
  na : Loc w cb F ka 0
theorem Cl3.stp {w w' : World} {cb kc ka kl : Nat} {F F' : Nat → Prop} {ahead ahead' : ByteArray} {last : Nat} {P : Nat → Nat → Prop} (h : Cl3 w cb kc ka kl F ahead last) (hs : Stp w w' F F' P) (hP : ∀ j, ¬ P kc j ∧ ¬ P kl j) (ha : w'.cell? ⟨ka, 0, none⟩ = some (.string ahead')) : Cl3 w' cb kc ka kl F' ahead' last :=
  ⟨(hs.oth kc 0 (ltC h.c) h.nc.1 (hP 0).1).trans h.c, ha, (hs.oth kl 0 (ltC h.l) h.nl.1 (hP 0).2).trans h.l, ⟨hs.nF (ltC h.c) h.nc.1, h.nc.2⟩, ⟨hs.nF (ltC h.l) h.nl.1, h.nl.2⟩, h.na.stp hs⟩
set_option maxHeartbeats 2000000 in
set_option maxRecDepth 100000 in
theorem list_Field_w (s : Wq) (rs : List (Int → Nat)) (ro : Option Addr) (rc : Nat) (last cb b g i kc ka kl : Nat) (ahead : ByteArray) (F : Nat → Prop) (E : Nat → Addr) (xo : Option Addr) (xc : Nat) (l : List Fld) (w : World) (h : Cd w cb b F (.wr s) E) (hn : l.length < 9223372036854775808) (hp : w.cell? ⟨g, i, none⟩ = some (.slice xo l.length xc)) (hL : Loc w cb F g i) (hl : FdV w xo xc l F) (hla : ∀ g' o, xo = some ⟨g', o, none⟩ → l ≠ [] → g' ≠ ka) (hga : g ≠ ka) (hK : Cl3 w cb kc ka kl F ahead last) (hR : ∃ K, Rus enInt w K (.slice ro rs.length rc) E rs ∧ ∀ k, K k → ¬ F k) (hrs : rs.length < 1000) (hroom : (CS.wr s).room 200) :
    Calls Tryz.prog 152 #[.pointer (some ⟨cb, 0, none⟩), .string n_fields, .pointer (some ⟨g, i, none⟩), .int .i64 32, .func (.func 153) #[] #[.pointer (some ⟨kc, 0, none⟩), .pointer (some ⟨ka, 0, none⟩), .pointer (some ⟨kl, 0, none⟩)], .slice ro rs.length rc] w fun e w' => e = .returned (.tuple #[]) ∧ ∃ F', Cd w' cb b F' (lpW (eachF last) (((CS.wr s).pInt n_fields 32 (lrs 32 rs) l.length).1, ahead) (l.take (min l.length 32))).1 E ∧ Stp w w' F F' (fun k j => k = ka ∧ j = 0) := by
  have k2 := h.g7.k2
  have hl2 := ltC k2
  have hsf := st_func
  have hent : ∀ (x : Value) (W : World), (callFunc 153 (#[x] ++ #[.pointer (some ⟨kc, 0, none⟩), .pointer (some ⟨ka, 0, none⟩), .pointer (some ⟨kl, 0, none⟩)])).run Tryz.prog W = .ok (.enter 153 (#[x] ++ #[.pointer (some ⟨kc, 0, none⟩), .pointer (some ⟨ka, 0, none⟩), .pointer (some ⟨kl, 0, none⟩)])) W := fun _ W => enters Tryz.func153 rfl rfl _ W
  obtain ⟨n, hnl⟩ : ∃ n, n = l.length := ⟨_, rfl⟩
  rw [← hnl] at hn hp ⊢
  have HNL := hid hnl
  clear hnl
  have hhead := list_head (.wr s) n_fields n 32 rs cb b F E (.slice ro rs.length rc) w h (by omega) (by decide) hR hrs (by simp only [CS.room] at *; omega) 3
  obtain ⟨c1, hc1⟩ : ∃ c1, c1 = ((CS.wr s).pInt n_fields 32 (lrs 32 rs) n).1 := ⟨_, rfl⟩
  have hn1 : ((CS.wr s).pInt n_fields 32 (lrs 32 rs) n).2 = n := rfl
  have hroom1 : c1.room 199 := by rw [hc1]; exact CS.pInt_room hroom _ _ _ _
  have hw1 : ∃ s, c1 = .wr s := ⟨_, hc1⟩
  rw [← hc1, hn1] at hhead
  rw [← hc1]
  clear hc1 hn1
  have HG := hid hhead
  clear hhead
  obtain ⟨N, hN⟩ : ∃ N, N = min n 32 := ⟨_, rfl⟩
  rw [← hN]
  have hNn : N ≤ n := by omega
  have hNm : N ≤ 32 := by omega
  have HM := hid hN
  clear hN
  have HW := hid (within_int 0 32 2 E (w.alloc (.cells #[.int .i64 n] 3)) (by decide))
  have H := hid (And.intro h (And.intro hL (And.intro hl (And.intro hK (And.intro hroom1 (And.intro hw1 hla))))))
  have hlp := hL.lt
  clear h hL hl hroom hroom1 hw1 hK hR hla
  go_enter Tryz.func152, Tryz.ntmps152
  go_wp2_with fail
  refine (uh HW).mono ?_
  rintro e w1 ⟨fv, rfl, K0, hF, hf1, hK0⟩
  obtain ⟨ao, cp, w2, hr, hcall⟩ := (uh HG) w1 fv K0 hF hf1 hK0 ro rc rfl
  obtain ⟨Fc, caps, rfl, _⟩ := hF.ex
  have HR := hid hr
  have HC := hid hcall
  clear hF hf1 hK0 hr hcall
  go_wp2_with (at_builtin; refine wpList_app rfl _ _ 278 278 rfl _ _ _ rfl rfl (uh HR) ?_)
  refine (uh HC).mono ?_
  rintro e w3 ⟨rfl, F3, hC3, hn3, hlt3, hnF3, hs3⟩
  have H3 := hid (And.intro hC3 hs3)
  clear hC3 hs3 hlt3 hnF3
  by_cases hnm : n ≤ 32
  all_goals
    go_wp2_with fail
    go_loopw [32] (fun iv wr => ∃ (k : Nat) (Fk : Nat → Prop), k ≤ N ∧ iv = .int .i64 (k : Nat) ∧ Cd wr cb b Fk (lpW (eachF last) (c1, ahead) (l.take k)).1 E ∧ (∃ s', (lpW (eachF last) (c1, ahead) (l.take k)).1 = .wr s') ∧ Cl3 wr cb kc ka kl Fk (lpW (eachF last) (c1, ahead) (l.take k)).2 last ∧ (lpW (eachF last) (c1, ahead) (l.take k)).1.room (199 - 4 * k) ∧ Stp w wr F Fk (fun k j => k = ka ∧ j = 0)) (fun iv _ => N - (intOf iv).toNat)
    case atStart =>
      obtain ⟨hC3, hs3⟩ := uh H3
      have hK := (uh H).2.2.2.1
      exact ⟨0, F3, Nat.zero_le _, rfl, hC3, (uh H).2.2.2.2.2.1, hK.stp hs3 (fun _ => ⟨fun h => h, fun h => h⟩) ((hs3.oth ka 0 hK.na.lt hK.na.nF (fun h => h)).trans hK.a), (uh H).2.2.2.2.1, hs3.mono (fun _ _ _ h => h.elim)⟩
    case round =>
      obtain ⟨k, Fk, hk, rfl, hCk, ⟨sk, hsk⟩, hKk, hrk, hsk2⟩ := hrel
      by_cases hlt : k < N
      · have hlt' : (k : Int) < (n : Int) := by omega
        have hltm : (k : Int) < 32 := by have := uh HM; omega
        obtain ⟨f, hfk⟩ : ∃ f, l[k]? = some f := ⟨l[k]'(by have := uh HNL; omega), List.getElem?_eq_getElem (by have := uh HNL; omega)⟩
        have hlk := (uh H).2.2.1.stp hsk2 (fun g' o e i _ h => (uh H).2.2.2.2.2.2 g' o e (by rintro rfl; simp at hfk) h.1)
        obtain ⟨hfok, eg, eo, rfl, hegF, e0, e1, e2, e3, e4⟩ := hlk.el k f hfk
        have hpr : wr.cell? ⟨g, i, none⟩ = some (.slice (some ⟨eg, eo, none⟩) n xc) := (hsk2.oth g i hlp (uh H).2.1.nF (fun h => hga h.1)).trans hp
        obtain ⟨st, hst⟩ : ∃ st, st = lpW (eachF last) (c1, ahead) (l.take k) := ⟨_, rfl⟩
        rw [← hst] at hCk hsk hKk hrk
        rw [hsk] at hCk hrk
        have h0r : wr.cell? ⟨cb, 0, none⟩ = some (.pointer (some ⟨b, 0, none⟩)) := hCk.c0
        have h1r : wr.cell? ⟨cb, 1, none⟩ = some (.pointer none) := hCk.c1
        have hlg := ltC hpr
        have hlcr := ltC h0r
        have hler := ltC e0
        have hcapk : k ≤ xc := by have := (uh H).2.2.1.cap; have := uh HNL; omega
        have hbx := box1 wr (.cells #[.string f.name, .int .u8 (f.kind : Nat), .string f.text, .float .f32 f.value, .int .u8 (f.unit : Nat)] 59)
        have hblk := heap_alloc_new wr (.cells #[.string f.name, .int .u8 (f.kind : Nat), .string f.text, .float .f32 f.value, .int .u8 (f.unit : Nat)] 59)
        have HCL := hid (fields1_any (.wr sk) f st.2 last cb b wr.heap.size kc ka kl Fk E _ (hCk.fr0 hbx) ⟨cOB (o := 0) hblk rfl, cOB (o := 1) hblk rfl, cOB (o := 2) hblk rfl, cOB (o := 3) hblk rfl, cOB (o := 4) hblk rfl⟩ (fun i => hCk.box _ _ i) (kpC hbx hKk.c) (kpC hbx hKk.a) (kpC hbx hKk.l) ⟨hKk.nc.1, by have := ltC hKk.c; simp only at this; omega, hKk.nc.2⟩ ⟨hKk.na.fr0 hbx, by have := hKk.na.lt; omega⟩ ⟨hKk.nl.1, by have := ltC hKk.l; simp only at this; omega, hKk.nl.2⟩ hfok (CS.room_le hrk (by omega)))
        have HK := hid (And.intro hrk (And.intro hsk2 (And.intro hfk (And.intro hsk (And.intro hst (And.intro hKk hbx))))))
        clear hCk hrk hsk2 hfk hsk hst hlk hKk hfok hblk hbx hegF
        go_wp2_with fail
        refine (uh HCL).mono ?_
        rintro e w4 ⟨rfl, F4, hC4, _, _, ha4, hs4⟩
        obtain ⟨hrk, hsk2, hfk, hsk, hst, hKk, hbx⟩ := uh HK
        have hs5 : Stp wr w4 Fk F4 (fun k j => (k = wr.heap.size ∧ 0 ≤ j) ∨ (k = ka ∧ j = 0)) := (Stp.of_fr hbx Fk _).trans hs4 (fun k j _ h => h.imp (fun h => ⟨h.1, by omega⟩) id)
        have es := lpW_succ (eachF last) (c1, ahead) l k f hfk
        rw [← hst] at es
        have e1' : (lpW (eachF last) (c1, ahead) (l.take (k + 1))).1 = ((CS.wr sk).pNamed st.2 last f).1 := by rw [es]; show (st.1.pNamed st.2 last f).1 = _; rw [hsk]
        have e2' : (lpW (eachF last) (c1, ahead) (l.take (k + 1))).2 = ((CS.wr sk).pNamed st.2 last f).2.name := by rw [es]; show (st.1.pNamed st.2 last f).2.name = _; rw [hsk]
        have HFIN : Hid (Cd w4 cb b F4 (lpW (eachF last) (c1, ahead) (l.take (k + 1))).1 E ∧ (∃ s', (lpW (eachF last) (c1, ahead) (l.take (k + 1))).1 = .wr s') ∧ Cl3 w4 cb kc ka kl F4 (lpW (eachF last) (c1, ahead) (l.take (k + 1))).2 last ∧ (lpW (eachF last) (c1, ahead) (l.take (k + 1))).1.room (199 - 4 * (k + 1)) ∧ Stp w w4 F F4 (fun k j => k = ka ∧ j = 0)) := by
          rw [e1', e2']
          refine ⟨hC4, CS.pNamed_wr sk _ _ _, hKk.stp hs5 (fun j => ⟨fun h => ?_, fun h => ?_⟩) ha4, CS.pNamed_room (CS.room_le hrk (by omega)) _ _ _, hsk2.trans hs5 (fun k j hk h => h.elim (fun h => by have := hsk2.size; omega) id)⟩
          · have h9 := ltC hKk.c
            simp only at h9
            rcases h with h | h
            · omega
            · exact hKk.nc.2 h.1
          · have h9 := ltC hKk.l
            simp only at h9
            rcases h with h | h
            · omega
            · exact hKk.nl.2 h.1
        have h1w : w4.cell? ⟨cb, 1, none⟩ = some (.pointer none) := by
          obtain ⟨s4, e4'⟩ := CS.pNamed_wr sk st.2 last f
          have h9 := hC4.c1
          rw [e4'] at h9
          exact h9
        have hlc4 := ltC h1w
        clear hC4 hs4 hs5 ha4 hrk hsk2 hfk hsk hst hKk hbx es e1' e2' HK HCL e0 e1 e2 e3 e4 hpr h0r h1r
        go_wp2_with fail
        exact ⟨⟨k + 1, F4, by omega, by go_num, (uh HFIN).1, (uh HFIN).2.1, (uh HFIN).2.2.1, (uh HFIN).2.2.2.1, (uh HFIN).2.2.2.2⟩, by simp [intOf]; omega⟩
      · have hkN : k = N := by omega
        have HK := hid (And.intro hCk hsk2)
        clear hCk hsk hrk hsk2 hKk
        first
          | (have hlt' : ¬ (k : Int) < (n : Int) := by have := uh HM; omega
             go_wp2_with fail)
          | (have hlt' : ¬ (k : Int) < 32 := by have := uh HM; omega
             go_wp2_with fail)
        go_end0
        rw [hkN] at HK
        exact ⟨rfl, Fk, (uh HK).1, (uh HK).2⟩
def fdc (l : List Fld) : List Value := l.flatMap Fld.vs
theorem fdc_app (a b : List Fld) : fdc (a ++ b) = fdc a ++ fdc b := by simp [fdc]
theorem Tryz.infoFd7 : (Tryz.prog.info? 59).map (fun i => (i.zero, i.size, i.bytes)) = some (some (.agg #[.string ⟨#[]⟩, .int .u8 0, .string ⟨#[]⟩, .float .f32 0, .int .u8 0]), 5, 48) := by kernel_rfl
structure OwV (w : World) (base : Nat) (x : Value) (l : List Fld) (F : Nat → Prop) : Prop where
  nF : ∀ k, x.ownBlock = some k → ¬ F k
  row : w.ownsRow base 59 5 x l.length (fdc l)
  ok : ∀ f ∈ l, f.ok
theorem OwV.nil (w : World) (base : Nat) (F : Nat → Prop) : OwV w base (.slice none 0 0) [] F := ⟨fun _ h => (by cases h), ⟨rfl, .inl ⟨rfl, rfl⟩⟩, fun _ h => (by cases h)⟩
theorem OwV.stp {w w' : World} {base : Nat} {x : Value} {l : List Fld} {F F' : Nat → Prop} {P : Nat → Nat → Prop} (h : OwV w base x l F) (hs : Stp w w' F F' P) (hP : ∀ k j, base ≤ k → k < w.heap.size → ¬ P k j) : OwV w' base x l F' :=
  ⟨fun k hk => hs.nF (h.row.lt k hk).2 (h.nF k hk), ownsRow_of_block h.row (fun k hk => hs.block (h.row.lt k hk).2 (h.nF k hk) (fun j => hP k j (h.row.lt k hk).1 (h.row.lt k hk).2)), h.ok⟩
theorem own_formY {w : World} {base t z n : Nat} {v : Value} {xs : List Value} (h : w.ownsRow base t z v n xs) : ∃ ao cap, v = .slice ao n cap := by
  rcases h.2 with ⟨rfl, e⟩ | ⟨g, cap, cur, rfl, _⟩
  · exact ⟨none, 0, by rw [e]⟩
  · exact ⟨some ⟨g, 0, none⟩, cap, rfl⟩
theorem OwV.app {w : World} {base : Nat} {v : Value} {l : List Fld} {F : Nat → Prop} (h : OwV w base v l F) (f : Fld) (hf : f.ok) (hb : base ≤ w.heap.size) (hF : ∀ k, F k → k < w.heap.size) (hl : l.length ≤ 1000000) :
    ∃ ao cap w', (Builtin.append_ #[28, 28] 28 #[v, .slice (some ⟨w.heap.size, 0, none⟩) 1 1]).run Tryz.prog (w.alloc (.cells #[.string f.name, .int .u8 (f.kind : Nat), .string f.text, .float .f32 f.value, .int .u8 (f.unit : Nat)] 59)) = .ok (.slice ao (l.length + 1) cap) w' ∧ OwV w' base (.slice ao (l.length + 1) cap) (l ++ [f]) F ∧ Fr (fun g => v.ownBlock = some g) w w' := by
  obtain ⟨i0, hi, hz0, hz1, hz2⟩ := info_parts Tryz.infoFd7
  have hb' := ownsRow_of_block (w' := w.alloc (.cells #[.string f.name, .int .u8 (f.kind : Nat), .string f.text, .float .f32 f.value, .int .u8 (f.unit : Nat)] 59)) h.row (fun g hg => Below.heap_alloc _ _ _ (h.row.lt g hg).2)
  obtain ⟨v', w', hr, h2, h3, _, h5⟩ := run_append_own_at (P := Tryz.prog) (w := w.alloc (.cells #[.string f.name, .int .u8 (f.kind : Nat), .string f.text, .float .f32 f.value, .int .u8 (f.unit : Nat)] 59)) base 28 28 59 i0 (.agg #[.string ⟨#[]⟩, .int .u8 0, .string ⟨#[]⟩, .float .f32 0, .int .u8 0]) 5 48 Tryz.underlying28 hi hz0 hz1 hz2 rfl (by decide) v l.length (fdc l) hb' ⟨w.heap.size, 0, none⟩ 1 1 f.vs rfl (fun j u hu => by
    rw [addr_add, World.cell?_alloc_at _ _ _ _ rfl]; simpa [Fld.vs] using hu) (fun u hu => by simp [Fld.vs] at hu; rcases hu with rfl | rfl | rfl | rfl | rfl <;> rfl) (by simp only [maxLen]; omega) (by omega) (by simp; omega)
  obtain ⟨ao, cap, rfl⟩ := own_formY h2
  refine ⟨ao, cap, w', hr, ⟨fun k hk => ?_, by rw [fdc_app, List.length_append, List.length_singleton]; simpa [fdc] using h2, fun x hx => ?_⟩, ((box1 w _).mono (fun _ _ h => h.elim)).grown h3 (fun g hg => .inl hg)⟩
  · rcases h5 with e | e
    · rw [e] at hk; exact h.nF k hk
    · rw [e] at hk
      cases hk
      exact fun hx => by have := hF _ hx; simp at this; omega
  · rcases List.mem_append.mp hx with hx | hx
    · exact h.ok x hx
    · rw [List.mem_singleton] at hx; rw [hx]; exact hf
def zFd : Fld := ⟨⟨#[]⟩, 0, ⟨#[]⟩, 0, 0⟩
theorem zFd_ok : zFd.ok := ⟨by decide, by decide, by decide, by decide, by decide⟩
set_option maxHeartbeats 4000000 in
set_option maxRecDepth 100000 in
theorem list_Field_r (q : Q) (rs : List (Int → Nat)) (ro : Option Addr) (rc : Nat) (last cb b g i kc ka kl : Nat) (ahead : ByteArray) (F : Nat → Prop) (E : Nat → Addr) (w : World) (h : Cd w cb b F (.rd q) E) (hp : w.cell? ⟨g, i, none⟩ = some (.slice none 0 0)) (hL : Loc w cb F g i) (hga : g ≠ ka ∧ kc ≠ g ∧ kl ≠ g) (hK : Cl3 w cb kc ka kl F ahead last) (hR : ∃ K, Rus enInt w K (.slice ro rs.length rc) E rs ∧ ∀ k, K k → ¬ F k) (hrs : rs.length < 1000) :
    Calls Tryz.prog 152 #[.pointer (some ⟨cb, 0, none⟩), .string n_fields, .pointer (some ⟨g, i, none⟩), .int .i64 32, .func (.func 153) #[] #[.pointer (some ⟨kc, 0, none⟩), .pointer (some ⟨ka, 0, none⟩), .pointer (some ⟨kl, 0, none⟩)], .slice ro rs.length rc] w fun e w' => e = .returned (.tuple #[]) ∧ ∃ F', Cd w' cb b F' (lpR (eachF last) zFd (min ((q.named n_fields).go 7 32).2.1 32) (((CS.rd q).pInt n_fields 32 (lrs 32 rs) 0).1, ahead)).1.1 E ∧ ∃ x, w'.cell? ⟨g, i, none⟩ = some x ∧ OwV w' w.heap.size x (lpR (eachF last) zFd (min ((q.named n_fields).go 7 32).2.1 32) (((CS.rd q).pInt n_fields 32 (lrs 32 rs) 0).1, ahead)).2 F' ∧ Stp w w' F F' (fun k j => (k = g ∧ j = i) ∨ (k = ka ∧ j = 0)) := by
  have k2 := h.g7.k2
  have hl2 := ltC k2
  have hsf := st_func
  have hent : ∀ (x : Value) (W : World), (callFunc 153 (#[x] ++ #[.pointer (some ⟨kc, 0, none⟩), .pointer (some ⟨ka, 0, none⟩), .pointer (some ⟨kl, 0, none⟩)])).run Tryz.prog W = .ok (.enter 153 (#[x] ++ #[.pointer (some ⟨kc, 0, none⟩), .pointer (some ⟨ka, 0, none⟩), .pointer (some ⟨kl, 0, none⟩)])) W := fun _ W => enters Tryz.func153 rfl rfl _ W
  have hhead := list_head (.rd q) n_fields 0 32 rs cb b F E (.slice ro rs.length rc) w h (by omega) (by decide) hR hrs (by simp only [CS.room, CS.len]; omega) 3
  obtain ⟨c1, hc1⟩ : ∃ c1, c1 = ((CS.rd q).pInt n_fields 32 (lrs 32 rs) 0).1 := ⟨_, rfl⟩
  obtain ⟨n, hn⟩ : ∃ n, n = ((q.named n_fields).go 7 32).2.1 := ⟨_, rfl⟩
  have hn1 : ((CS.rd q).pInt n_fields 32 (lrs 32 rs) 0).2 = (n : Int) := by rw [hn]; rfl
  have hq1 : ∃ q', c1 = .rd q' := ⟨_, hc1⟩
  have hnlt : n < 4294967296 := by rw [hn]; exact (q.named n_fields).go_lt 7 32
  rw [← hc1, hn1] at hhead
  rw [← hc1, ← hn]
  clear hc1 hn1 hn
  have HG := hid hhead
  clear hhead
  obtain ⟨N, hN⟩ : ∃ N, N = min n 32 := ⟨_, rfl⟩
  rw [← hN]
  have hNm : N ≤ 32 := by omega
  have HM := hid hN
  clear hN
  have HW := hid (within_int 0 32 2 E (w.alloc (.cells #[.int .i64 0] 3)) (by decide))
  have H := hid (And.intro h (And.intro hL (And.intro hK hq1)))
  have hlp := hL.lt
  clear h hL hq1 hK hR
  go_enter Tryz.func152, Tryz.ntmps152
  go_wp2_with fail
  refine (uh HW).mono ?_
  rintro e w1 ⟨fv, rfl, K0, hF, hf1, hK0⟩
  obtain ⟨ao, cp, w2, hr, hcall⟩ := (uh HG) w1 fv K0 hF hf1 hK0 ro rc rfl
  obtain ⟨Fc, caps, rfl, _⟩ := hF.ex
  have HR := hid hr
  have HC := hid hcall
  clear hF hf1 hK0 hr hcall
  go_wp2_with (at_builtin; refine wpList_app rfl _ _ 278 278 rfl _ _ _ rfl rfl (uh HR) ?_)
  refine (uh HC).mono ?_
  rintro e w3 ⟨rfl, F3, hC3, hn3, hlt3, hnF3, hs3⟩
  have H3 := hid (And.intro hC3 hs3)
  clear hC3 hs3 hlt3 hnF3
  by_cases hnm : n ≤ 32
  all_goals
    go_wp2_with fail
    go_loopw [32] (fun iv wr => ∃ (k : Nat) (Fk : Nat → Prop) (x : Value), k ≤ N ∧ iv = .int .i64 (k : Nat) ∧ Cd wr cb b Fk (lpR (eachF last) zFd k (c1, ahead)).1.1 E ∧ (∃ q', (lpR (eachF last) zFd k (c1, ahead)).1.1 = .rd q') ∧ Cl3 wr cb kc ka kl Fk (lpR (eachF last) zFd k (c1, ahead)).1.2 last ∧ wr.cell? ⟨g, i, none⟩ = some x ∧ OwV wr w.heap.size x (lpR (eachF last) zFd k (c1, ahead)).2 Fk ∧ Stp w wr F Fk (fun k j => (k = g ∧ j = i) ∨ (k = ka ∧ j = 0))) (fun iv _ => N - (intOf iv).toNat)
    case atStart =>
      obtain ⟨hC3, hs3⟩ := uh H3
      have hK := (uh H).2.2.1
      exact ⟨0, F3, .slice none 0 0, Nat.zero_le _, rfl, hC3, (uh H).2.2.2, hK.stp hs3 (fun _ => ⟨fun h => h, fun h => h⟩) ((hs3.oth ka 0 hK.na.lt hK.na.nF (fun h => h)).trans hK.a), (hs3.oth g i hlp (uh H).2.1.nF (fun h => h)).trans hp, OwV.nil _ _ _, hs3.mono (fun _ _ _ h => h.elim)⟩
    case round =>
      obtain ⟨k, Fk, x, hk, rfl, hCk, ⟨qk, hqk⟩, hKk, hxk, hOk, hsk2⟩ := hrel
      by_cases hlt : k < N
      · have hlt' : (k : Int) < (n : Int) := by have := uh HM; omega
        have hltm : (k : Int) < 32 := by have := uh HM; omega
        obtain ⟨st, hst⟩ : ∃ st, st = (lpR (eachF last) zFd k (c1, ahead)).1 := ⟨_, rfl⟩
        obtain ⟨lk, hlk⟩ : ∃ lk, lk = (lpR (eachF last) zFd k (c1, ahead)).2 := ⟨_, rfl⟩
        have hlkl : lk.length = k := by rw [hlk]; exact lpR_len _ _ _ _
        rw [← hst] at hCk hqk hKk
        rw [← hlk] at hOk
        rw [hqk] at hCk
        have h0r : wr.cell? ⟨cb, 0, none⟩ = some (.pointer none) := hCk.c0
        have h1r : wr.cell? ⟨cb, 1, none⟩ = some (.pointer (some ⟨b, 0, none⟩)) := hCk.c1
        have hlg := ltC hxk
        have hlcr := ltC h0r
        have hLk := (uh H).2.1.stp hsk2
        have hbx := box1 wr (.cells #[.string ⟨#[]⟩, .int .u8 0, .string ⟨#[]⟩, .float .f32 0, .int .u8 0] 59)
        have hblk := heap_alloc_new wr (.cells #[.string ⟨#[]⟩, .int .u8 0, .string ⟨#[]⟩, .float .f32 0, .int .u8 0] 59)
        have HCL := hid (fields1_any (.rd qk) zFd st.2 last cb b wr.heap.size kc ka kl Fk E _ (hCk.fr0 hbx) ⟨cOB (o := 0) hblk rfl, cOB (o := 1) hblk rfl, cOB (o := 2) hblk rfl, cOB (o := 3) hblk rfl, cOB (o := 4) hblk rfl⟩ (fun i => hCk.box _ _ i) (kpC hbx hKk.c) (kpC hbx hKk.a) (kpC hbx hKk.l) ⟨hKk.nc.1, by have := ltC hKk.c; simp only at this; omega, hKk.nc.2⟩ ⟨hKk.na.fr0 hbx, by have := hKk.na.lt; omega⟩ ⟨hKk.nl.1, by have := ltC hKk.l; simp only at this; omega, hKk.nl.2⟩ zFd_ok (by simp only [CS.room, CS.len]; omega))
        have HK := hid (And.intro hsk2 (And.intro hqk (And.intro hst (And.intro hlk (And.intro hKk (And.intro hbx (And.intro hOk hLk)))))))
        have HLK := hid hlkl
        clear hCk hsk2 hqk hst hlk hKk hblk hbx hOk hLk hlkl
        go_wp2_with fail
        refine (uh HCL).mono ?_
        have hlkl := uh HLK
        rintro e w4 ⟨rfl, F4, hC4, hp4v, hok4, ha4, hs4⟩
        obtain ⟨hsk2, hqk, hst, hlk, hKk, hbx, hOk, hLk⟩ := uh HK
        obtain ⟨f, hfv⟩ : ∃ f, f = ((CS.rd qk).pNamed st.2 last zFd).2 := ⟨_, rfl⟩
        rw [← hfv] at hp4v hok4 ha4
        obtain ⟨v0, v1, v2, v3, v4⟩ := hp4v
        have hs5 : Stp wr w4 Fk F4 (fun k j => (k = wr.heap.size ∧ 0 ≤ j) ∨ (k = ka ∧ j = 0)) := (Stp.of_fr hbx Fk _).trans hs4 (fun k j _ h => h.imp (fun h => ⟨h.1, by omega⟩) id)
        have hszw := hsk2.size
        have hszr := hs5.size
        have haw := (uh H).2.2.1.na.lt
        have hO4 : OwV w4.drew w.heap.size x lk F4 := by
          have h1 := hOk.stp hs5 (fun k j hb hk h => by omega)
          exact ⟨h1.nF, ownsRow_of_block h1.row (fun _ _ => rfl), h1.ok⟩
        obtain ⟨xo, xc, rfl⟩ := own_formY hOk.row
        obtain ⟨ao', cap', w6, hr6, hO6, hf6⟩ := hO4.app f hok4 (by show w.heap.size ≤ w4.heap.size; omega) (fun k hk => hC4.lt k hk) (by omega)
        have h0w : w4.cell? ⟨cb, 1, none⟩ = some (.pointer (some ⟨b, 0, none⟩)) := by
          obtain ⟨s4, e4'⟩ := CS.pNamed_rd qk st.2 last zFd
          have h9 := hC4.c1
          rw [e4'] at h9
          exact h9
        have hp4 : w4.cell? ⟨g, i, none⟩ = some (.slice xo lk.length xc) := (hs5.oth g i hlg hLk.nF (fun h => by rcases h with h | h; omega; exact hga.1 h.1)).trans hxk
        have fz4 : w4.frozen? ⟨g, i, none⟩ = false := (hs5.fz g i hlg hLk.nF).trans hLk.fz
        have hlg4 := ltC hp4
        have hxlo : ∀ k, (Value.slice xo lk.length xc).ownBlock = some k → w.heap.size ≤ k := fun k hk => (hOk.row.lt k hk).1
        have hp6 : w6.cell? ⟨g, i, none⟩ = some (.slice xo lk.length xc) := (hf6.cell (p := ⟨g, i, none⟩) hlg4 (fun h => by have := hxlo g h; omega)).trans hp4
        have fz6 : w6.frozen? ⟨g, i, none⟩ = false := (hf6.frozen (p := ⟨g, i, none⟩) hlg4 (fun h => by have := hxlo g h; omega)).trans fz4
        have hf46 : Fr (fun k => (Value.slice xo lk.length xc).ownBlock = some k) w4 w6 := ⟨hf6.os, hf6.tape, hf6.output, hf6.size, hf6.block⟩
        have hgF4 : ¬ F4 g := hs5.nF hlg hLk.nF
        have hsW : Stp w (w6.setCell ⟨g, i, none⟩ (.slice ao' (lk.length + 1) cap')) F F4 (fun k j => (k = g ∧ j = i) ∨ (k = ka ∧ j = 0)) := ((hsk2.trans hs5 (fun k j hk h => h.elim (fun h => by omega) .inr)).grow hf46 hxlo).trans (Stp.set g i _) (fun _ _ _ h => .inl h)
        have hcbw := ltC (uh H).1.c0
        have hglo := (uh H).2.1.lo
        have hgnc := (uh H).2.1.nc
        have hC7 : Cd (w6.setCell ⟨g, i, none⟩ (.slice ao' (lk.length + 1) cap')) cb b F4 ((CS.rd qk).pNamed st.2 last zFd).1 E :=
          (hC4.fr hf46 (fun kk hk hS => hO4.nF kk hS hk) (fun hS => by have := hxlo cb hS; simp only at hcbw; omega) (fun kk hS => by have := hxlo kk hS; omega)).fr ((Fr.refl (fun kk => kk = g) _).setCell (.inl rfl) _) (fun kk hk e => hgF4 (e ▸ hk)) (fun e => hgnc e.symm) (fun kk e => by rw [e]; exact hglo)
        have hK0 := (uh H).2.2.1
        have hoth : ∀ kk jj v, kk < w.heap.size → kk ≠ g → w4.cell? ⟨kk, jj, none⟩ = some v → (w6.setCell ⟨g, i, none⟩ (.slice ao' (lk.length + 1) cap')).cell? ⟨kk, jj, none⟩ = some v := fun kk jj v hkk hng hv =>
          (World.cell?_setCell_other _ _ _ _ (by intro e; injection e with e1 _ _; exact hng e1.symm)).trans ((hf46.cell (p := ⟨kk, jj, none⟩) (ltC hv) (fun h => by have := hxlo kk h; omega)).trans hv)
        have hK4 : Cl3 w4 cb kc ka kl F4 f.name last := hKk.stp hs5 (fun j => ⟨fun h => by
            have h9 := ltC hKk.c
            simp only at h9
            rcases h with h | h
            · omega
            · exact hKk.nc.2 h.1, fun h => by
            have h9 := ltC hKk.l
            simp only at h9
            rcases h with h | h
            · omega
            · exact hKk.nl.2 h.1⟩) ha4
        have hA7 : Loc (w6.setCell ⟨g, i, none⟩ (.slice ao' (lk.length + 1) cap')) cb F4 ka 0 := ⟨(hsW.fz ka 0 hK0.na.lt hK0.na.nF).trans hK0.na.fz, Nat.lt_of_lt_of_le hK0.na.lt hsW.size, hK4.na.nF, hK0.na.nc, hK0.na.lo⟩
        have hK7 : Cl3 (w6.setCell ⟨g, i, none⟩ (.slice ao' (lk.length + 1) cap')) cb kc ka kl F4 f.name last := ⟨hoth kc 0 _ (ltC hK0.c) hga.2.1 hK4.c, hoth ka 0 _ hK0.na.lt (Ne.symm hga.1) hK4.a, hoth kl 0 _ (ltC hK0.l) hga.2.2 hK4.l, hK4.nc, hK4.nl, hA7⟩
        have hO7 : OwV (w6.setCell ⟨g, i, none⟩ (.slice ao' (lk.length + 1) cap')) w.heap.size (.slice ao' (lk.length + 1) cap') (lk ++ [f]) F4 := hO6.stp (Stp.set g i _) (fun kk j hb _ h => by omega)
        have hc7 : (w6.setCell ⟨g, i, none⟩ (.slice ao' (lk.length + 1) cap')).cell? ⟨g, i, none⟩ = some (.slice ao' (lk.length + 1) cap') := World.cell?_setCell_same _ _ _ hp6
        have e1 : (lpR (eachF last) zFd (k + 1) (c1, ahead)).1.1 = ((CS.rd qk).pNamed st.2 last zFd).1 := by
          show ((lpR (eachF last) zFd k (c1, ahead)).1.1.pNamed (lpR (eachF last) zFd k (c1, ahead)).1.2 last zFd).1 = _
          rw [← hst, hqk]
        have e2 : (lpR (eachF last) zFd (k + 1) (c1, ahead)).1.2 = f.name := by
          show ((lpR (eachF last) zFd k (c1, ahead)).1.1.pNamed (lpR (eachF last) zFd k (c1, ahead)).1.2 last zFd).2.name = _
          rw [← hst, hqk, hfv]
        have e3 : (lpR (eachF last) zFd (k + 1) (c1, ahead)).2 = lk ++ [f] := by
          show (lpR (eachF last) zFd k (c1, ahead)).2 ++ [((lpR (eachF last) zFd k (c1, ahead)).1.1.pNamed (lpR (eachF last) zFd k (c1, ahead)).1.2 last zFd).2] = _
          rw [← hst, ← hlk, hqk, hfv]
        have HFIN : Hid (∀ V, V = w6.setCell ⟨g, i, none⟩ (.slice ao' (lk.length + 1) cap') → Cd V cb b F4 (lpR (eachF last) zFd (k + 1) (c1, ahead)).1.1 E ∧ (∃ q', (lpR (eachF last) zFd (k + 1) (c1, ahead)).1.1 = .rd q') ∧ Cl3 V cb kc ka kl F4 (lpR (eachF last) zFd (k + 1) (c1, ahead)).1.2 last ∧ V.cell? ⟨g, i, none⟩ = some (.slice ao' (lk.length + 1) cap') ∧ OwV V w.heap.size (.slice ao' (lk.length + 1) cap') (lpR (eachF last) zFd (k + 1) (c1, ahead)).2 F4 ∧ Stp w V F F4 (fun k j => (k = g ∧ j = i) ∨ (k = ka ∧ j = 0))) := by
          rintro V rfl
          rw [e1, e2, e3]
          exact ⟨hC7, CS.pNamed_rd qk _ _ _, hK7, hc7, hO7, hsW⟩
        have HR6 := hid hr6
        have hlv4 := ltC v0
        clear hsW hC7 hO7 hK7 hK4 hK0 hA7 hoth hc7 e1 e2 e3 hgF4 hxlo hr6 hO6 hf6 hf46 hC4 hs5 hs4 hO4 hOk hst hlk hKk hbx hsk2 hqk hLk ha4 hok4 hfv HK HCL hszw hszr haw hcbw hglo hgnc hxk h0r h1r hlkl
        go_wp2_with fail
        go_region_law (refine step_app rfl (.tmp 56) (.tmp 58) 28 28 rfl _ _ _ (by simp [Act.eval]) (by simp [Act.eval]) (uh HR6) ?_)
        all_goals
          go_wp2_with fail
          obtain ⟨z1, z2, z3, z4, z5, z6⟩ := (uh HFIN) _ rfl
          exact ⟨⟨k + 1, F4, _, by omega, by go_num, z1, z2, z3, z4, z5, z6⟩, by simp [intOf]; omega⟩
      · have hkN : k = N := by omega
        have HK := hid (And.intro hCk (And.intro hsk2 (And.intro hOk hxk)))
        clear hCk hqk hsk2 hOk hKk
        first
          | (have hlt' : ¬ (k : Int) < (n : Int) := by have := uh HM; omega
             go_wp2_with fail)
          | (have hlt' : ¬ (k : Int) < 32 := by have := uh HM; omega
             go_wp2_with fail)
        go_end0
        rw [hkN] at HK
        exact ⟨rfl, Fk, (uh HK).1, x, (uh HK).2.2.2, (uh HK).2.2.1, (uh HK).2.1⟩
def CS.pFields (c : CS) (last : Nat) (rs : List (Int → Nat)) (l : List Fld) : CS × List Fld := match c with
 | .wr s => ((lpW (eachF last) (((CS.wr s).pInt n_fields 32 (lrs 32 rs) l.length).1, ⟨#[]⟩) (l.take (min l.length 32))).1, l)
 | .rd q => ((lpR (eachF last) zFd (min ((q.named n_fields).go 7 32).2.1 32) (((CS.rd q).pInt n_fields 32 (lrs 32 rs) 0).1, ⟨#[]⟩)).1.1, (lpR (eachF last) zFd (min ((q.named n_fields).go 7 32).2.1 32) (((CS.rd q).pInt n_fields 32 (lrs 32 rs) 0).1, ⟨#[]⟩)).2)
structure FdX (w : World) (c : CS) (x : Value) (l : List Fld) (F : Nat → Prop) (g : Nat) : Prop where
 wr : ∀ s, c = .wr s → ∃ xo xc, x = .slice xo l.length xc ∧ FdV w xo xc l F ∧ ∀ g' o, xo = some ⟨g', o, none⟩ → l ≠ [] → g' ≠ g
 rd : ∀ q, c = .rd q → x = .slice none 0 0 ∧ l = []
 n : l.length < 9223372036854775808
theorem FdX.stp {w w' : World} {c c' : CS} {x : Value} {l : List Fld} {F F' : Nat → Prop} {P : Nat → Nat → Prop} {g : Nat} (h : FdX w c x l F g) (hs : Stp w w' F F' P) (hP : ∀ k i, k < w.heap.size → P k i → k = g) (hw : ∀ s, c' = .wr s → ∃ s', c = .wr s') (hr : ∀ q, c' = .rd q → ∃ q', c = .rd q') : FdX w' c' x l F' g := by
 refine ⟨fun s hs' => ?_, fun q hq => ?_, h.n⟩
 ·obtain ⟨s', e⟩ := hw s hs'
  obtain ⟨xo, xc, e1, e2, e3⟩ := h.wr s' e
  refine ⟨xo, xc, e1, ⟨e2.cap, fun j f hf => ?_⟩, e3⟩
  obtain ⟨h0, g', o, h1, h2, h3, h4, h5, h6, h7⟩ := e2.el j f hf
  have hlt : g' < w.heap.size := ltC h3
  have hne : g' ≠ g := e3 g' o h1 (by rintro rfl; simp at hf)
  have hp : ∀ i, ¬ P g' i := fun i hp => hne (hP g' i hlt hp)
  exact ⟨h0, g', o, h1, hs.nF hlt h2, (hs.oth g' _ hlt h2 (hp _)).trans h3, (hs.oth g' _ hlt h2 (hp _)).trans h4, (hs.oth g' _ hlt h2 (hp _)).trans h5, (hs.oth g' _ hlt h2 (hp _)).trans h6, (hs.oth g' _ hlt h2 (hp _)).trans h7⟩
 ·obtain ⟨q', e⟩ := hr q hq
  exact h.rd q' e
structure FdO (w w' : World) (c : CS) (x x' : Value) (l' : List Fld) (F' : Nat → Prop) : Prop where
 wr : ∀ s, c = .wr s → x' = x
 rd : ∀ q, c = .rd q → OwV w' w.heap.size x' l' F'
set_option maxHeartbeats 2000000 in
set_option maxRecDepth 100000 in
theorem fields_any (c : CS) (last : Nat) (rs : List (Int → Nat)) (ro : Option Addr) (rc : Nat) (x : Value) (l : List Fld) (cb b g i : Nat) (F : Nat → Prop) (E : Nat → Addr) (w : World) (h : Cd w cb b F c E) (hp : w.cell? ⟨g, i, none⟩ = some x) (hX : FdX w c x l F g) (hL : Loc w cb F g i) (hR : ∃ K, Rus enInt w K (.slice ro rs.length rc) E rs ∧ ∀ k, K k → ¬ F k) (hrs : rs.length < 1000) (hroom : c.room 200) :
  Calls Tryz.prog 133 #[.pointer (some ⟨cb, 0, none⟩), .pointer (some ⟨g, i, none⟩), .int .u8 (last : Nat), .slice ro rs.length rc] w fun e w' => e = .returned (.tuple #[]) ∧ ∃ F' x', Cd w' cb b F' (c.pFields last rs l).1 E ∧ w'.cell? ⟨g, i, none⟩ = some x' ∧ FdO w w' c x x' (c.pFields last rs l).2 F' ∧ Stp w w' F F' (fun k j => k = g ∧ j = i) := by
 have hmf := mf
 obtain ⟨w3, hw3⟩ : ∃ w3, w3 = ((w.alloc (.cells #[.pointer (some ⟨cb, 0, none⟩)] 138)).alloc (.cells #[.int .u8 (last : Nat)] 5)).alloc (.cells #[.string ⟨#[]⟩] 9) := ⟨_, rfl⟩
 have hf3 : Fr (fun _ => False) w w3 := by rw [hw3]; exact (((Fr.refl _ _).alloc _).alloc _).alloc _
 have hsz : w3.heap.size = w.heap.size + 1 + 1 + 1 := by rw [hw3]; simp
 have hcbl := ltC h.c0
 have hcl := h.cl
 have hgl := hL.lt
 have b0 : w3.heap[w.heap.size]? = some (.cells #[.pointer (some ⟨cb, 0, none⟩)] 138) := by
  rw [hw3, Below.heap_alloc _ _ _ (by simp; omega), Below.heap_alloc _ _ _ (by simp)]
  exact heap_alloc_new _ _
 have b1 : w3.heap[w.heap.size + 1]? = some (.cells #[.int .u8 (last : Nat)] 5) := by
  rw [hw3, Below.heap_alloc _ _ _ (by simp)]
  have := heap_alloc_new (w.alloc (.cells #[.pointer (some ⟨cb, 0, none⟩)] 138)) (.cells #[.int .u8 (last : Nat)] 5)
  simpa using this
 have b2 : w3.heap[w.heap.size + 1 + 1]? = some (.cells #[.string ⟨#[]⟩] 9) := by
  rw [hw3]
  have := heap_alloc_new ((w.alloc (.cells #[.pointer (some ⟨cb, 0, none⟩)] 138)).alloc (.cells #[.int .u8 (last : Nat)] 5)) (.cells #[.string ⟨#[]⟩] 9)
  simpa using this
 have hnew : ∀ k, w.heap.size ≤ k → ¬ F k := fun k hk hx => by have := h.lt k hx; omega
 have hK3 : Cl3 w3 cb w.heap.size (w.heap.size + 1 + 1) (w.heap.size + 1) F ⟨#[]⟩ last := ⟨cOB b0 rfl, cOB b2 rfl, cOB b1 rfl, ⟨hnew _ (by omega), by omega⟩, ⟨hnew _ (by omega), by omega⟩, ⟨by simp [World.frozen?, b2], by omega, hnew _ (by omega), by simp only at hcbl; omega, by simp only at hcbl; omega⟩⟩
 have hR3 : ∃ K, Rus enInt w3 K (.slice ro rs.length rc) E rs ∧ ∀ k, K k → ¬ F k := by
  obtain ⟨K, h1, h2⟩ := hR
  exact ⟨K, h1.fr hf3 (fun _ _ h => h), h2⟩
 have HC : Hid (Calls Tryz.prog 152 #[.pointer (some ⟨cb, 0, none⟩), .string n_fields, .pointer (some ⟨g, i, none⟩), .int .i64 32, .func (.func 153) #[] #[.pointer (some ⟨w.heap.size, 0, none⟩), .pointer (some ⟨w.heap.size + 1 + 1, 0, none⟩), .pointer (some ⟨w.heap.size + 1, 0, none⟩)], .slice ro rs.length rc] w3 fun e w' => e = .returned (.tuple #[]) ∧ ∃ F' x', Cd w' cb b F' (c.pFields last rs l).1 E ∧ w'.cell? ⟨g, i, none⟩ = some x' ∧ FdO w w' c x x' (c.pFields last rs l).2 F' ∧ Stp w w' F F' (fun k j => k = g ∧ j = i)) := by
  cases c with
  | wr s =>
   obtain ⟨xo, xc, rfl, hV, hne⟩ := hX.wr s rfl
   have hV3 := hV.stp (Stp.of_fr hf3 F (fun _ _ => False)) (fun _ _ _ _ _ h => h)
   refine (list_Field_w s rs ro rc last cb b g i w.heap.size (w.heap.size + 1 + 1) (w.heap.size + 1) ⟨#[]⟩ F E xo xc l w3 (h.fr0 hf3) hX.n (kpC hf3 hp) (hL.fr0 hf3) hV3 (fun g' o e hl => ?_) (by omega) hK3 hR3 hrs hroom).mono ?_
   ·obtain ⟨f, hf⟩ : ∃ f, l[0]? = some f := by
     cases l with
     | nil => exact absurd rfl hl
     | cons a r => exact ⟨a, rfl⟩
    obtain ⟨_, g2, o2, e2, _, c0, _⟩ := hV.el 0 f hf
    rw [e] at e2
    cases e2
    have := ltC c0
    simp only at this
    omega
   ·rintro e w' ⟨rfl, F', hC, hs⟩
    have hs' : Stp w w' F F' (fun k j => k = g ∧ j = i) := (Stp.of_fr hf3 F _).trans (hs.mono (P' := fun k j => k = w.heap.size + 1 + 1 ∧ j = 0) (fun _ _ _ h => h)) (fun k j hk h => by omega)
    exact ⟨rfl, F', _, hC, (hs.oth g i (by omega) hL.nF (fun h => by omega)).trans (kpC hf3 hp), ⟨fun _ _ => rfl, fun q e => by cases e⟩, hs'⟩
  | rd q =>
   obtain ⟨rfl, rfl⟩ := hX.rd q rfl
   refine (list_Field_r q rs ro rc last cb b g i w.heap.size (w.heap.size + 1 + 1) (w.heap.size + 1) ⟨#[]⟩ F E w3 (h.fr0 hf3) (kpC hf3 hp) (hL.fr0 hf3) ⟨by omega, by omega, by omega⟩ hK3 hR3 hrs).mono ?_
   rintro e w' ⟨rfl, F', hC, x', hx', hO, hs⟩
   have hs' : Stp w w' F F' (fun k j => k = g ∧ j = i) := (Stp.of_fr hf3 F _).trans hs (fun k j hk h => h.elim id (fun h => by omega))
   exact ⟨rfl, F', x', hC, hx', ⟨fun s e => (by cases e), fun _ _ => ⟨hO.nF, ownsRow_base hO.row (by omega), hO.ok⟩⟩, hs'⟩
 have hk0 := hK3.c
 clear h hp hX hL hR hroom hf3 hsz hcbl hcl b0 b1 b2 hnew hK3 hR3 hgl
 go_enter Tryz.func133, Tryz.ntmps133
 rw [hw3] at hk0
 go_wp2_with fail
 rw [← hw3]
 refine (uh HC).mono ?_
 rintro e w' ⟨rfl, hr⟩
 have HR := hid hr
 clear hr hk0 hw3 HC
 go_wp2_with fail
 go_end0
 exact ⟨rfl, uh HR⟩
variable {L : List Nat}
theorem CS.again.w {c d : CS} (h : c.again d L) : ∃ s, d = .wr s := by obtain ⟨_, s, _, e, _, _⟩ := h; exact ⟨s, e⟩
def CS.sm (c c' : CS) : Prop := (∀ s, c' = .wr s → ∃ s', c = .wr s') ∧ (∀ q, c' = .rd q → ∃ q', c = .rd q')
theorem CS.sm_refl (c : CS) : c.sm c := ⟨fun s h => ⟨s, h⟩, fun q h => ⟨q, h⟩⟩
theorem CS.sm_trans {a b c : CS} (h : a.sm b) (k : b.sm c) : a.sm c := ⟨fun s e => by obtain ⟨s', e'⟩ := k.1 s e; exact h.1 s' e', fun q e => by obtain ⟨q', e'⟩ := k.2 q e; exact h.2 q' e'⟩
theorem CS.sm_wr (s s' : Wq) : (CS.wr s).sm (.wr s') := ⟨fun _ _ => ⟨s, rfl⟩, fun _ e => (by cases e)⟩
theorem CS.sm_rd (q q' : Q) : (CS.rd q).sm (.rd q') := ⟨fun _ e => (by cases e), fun _ _ => ⟨q, rfl⟩⟩
theorem CS.pU8_sm (c : CS) (nm : ByteArray) (rs : List (Nat → Nat)) (v : Nat) : c.sm (c.pU8 nm rs v).1 := by
 cases c with
 | wr s => exact CS.sm_wr _ _
 | rd q => exact CS.sm_rd _ _
theorem CS.pU32_sm (c : CS) (nm : ByteArray) (rs : List (Nat → Nat)) (v : Nat) : c.sm (c.pU32 nm rs v).1 := by
 cases c with
 | wr s => exact CS.sm_wr _ _
 | rd q => exact CS.sm_rd _ _
theorem CS.pStr_sm (c : CS) (nm : ByteArray) (m : Int) (rs : List (ByteArray → Nat)) (v : ByteArray) : c.sm (c.pStr nm m rs v).1 := by
 cases c with
 | wr s => exact CS.sm_wr _ _
 | rd q => exact CS.sm_rd _ _
theorem CS.pId_sm (c : CS) (v : Nat × Nat) : c.sm (c.pId v).1 := CS.sm_trans (c.pU32_sm n_client [] v.1) (CS.pU32_sm _ _ _ _)
theorem lpW_mode (last : Nat) : ∀ (xs : List Fld) (s : CS × ByteArray), (∃ s', s.1 = .wr s') → ∃ s', (lpW (eachF last) s xs).1 = .wr s'
 | [], s, h => h
 | x :: xs, s, ⟨s', h⟩ => lpW_mode last xs _ (by
  show ∃ s'', (s.1.pNamed s.2 last x).1 = .wr s''
  rw [h]
  exact CS.pNamed_wr _ _ _ _)
theorem lpR_mode (last : Nat) (s : CS × ByteArray) (h : ∃ q, s.1 = .rd q) : ∀ n, ∃ q, (lpR (eachF last) zFd n s).1.1 = .rd q
 | 0 => h
 | n + 1 => by
  obtain ⟨q, hq⟩ := lpR_mode last s h n
  show ∃ q', ((lpR (eachF last) zFd n s).1.1.pNamed (lpR (eachF last) zFd n s).1.2 last zFd).1 = .rd q'
  rw [hq]
  exact CS.pNamed_rd _ _ _ _
theorem CS.pFields_sm (c : CS) (last : Nat) (rs : List (Int → Nat)) (l : List Fld) : c.sm (c.pFields last rs l).1 := by
 cases c with
 | wr s =>
  obtain ⟨s', e⟩ := lpW_mode last (l.take (min l.length 32)) (((CS.wr s).pInt n_fields 32 (lrs 32 rs) l.length).1, ⟨#[]⟩) ⟨_, rfl⟩
  show (CS.wr s).sm (lpW (eachF last) (((CS.wr s).pInt n_fields 32 (lrs 32 rs) l.length).1, ⟨#[]⟩) (l.take (min l.length 32))).1
  rw [e]
  exact CS.sm_wr _ _
 | rd q =>
  obtain ⟨q', e⟩ := lpR_mode last (((CS.rd q).pInt n_fields 32 (lrs 32 rs) 0).1, ⟨#[]⟩) ⟨_, rfl⟩ (min ((q.named n_fields).go 7 32).2.1 32)
  show (CS.rd q).sm (lpR (eachF last) zFd (min ((q.named n_fields).go 7 32).2.1 32) (((CS.rd q).pInt n_fields 32 (lrs 32 rs) 0).1, ⟨#[]⟩)).1.1
  rw [e]
  exact CS.sm_rd _ _
theorem lpW_room (last : Nat) : ∀ (xs : List Fld) (s : CS × ByteArray) (n : Nat), s.1.room (n + 4 * xs.length) → (lpW (eachF last) s xs).1.room n
 | [], s, n, h => by
  show s.1.room n
  simpa using h
 | x :: xs, s, n, h => lpW_room last xs _ n (CS.pNamed_room (n := n + 4 * xs.length) (CS.room_le h (by simp; omega)) s.2 last x)
theorem CS.pFields_room {c : CS} {n : Nat} (h : c.room (n + 129)) (last : Nat) (rs : List (Int → Nat)) (l : List Fld) : (c.pFields last rs l).1.room n := by
 cases c with
 | wr s =>
  have h1 := CS.pInt_room (c := .wr s) (n := n + 128) h n_fields 32 (lrs 32 rs) l.length
  exact lpW_room last _ _ n (CS.room_le h1 (by simp; omega))
 | rd q =>
  obtain ⟨q', e⟩ := lpR_mode last (((CS.rd q).pInt n_fields 32 (lrs 32 rs) 0).1, ⟨#[]⟩) ⟨_, rfl⟩ (min ((q.named n_fields).go 7 32).2.1 32)
  show (lpR (eachF last) zFd (min ((q.named n_fields).go 7 32).2.1 32) (((CS.rd q).pInt n_fields 32 (lrs 32 rs) 0).1, ⟨#[]⟩)).1.1.room n
  rw [e]
  simp only [CS.room, CS.len] at *
  omega
structure RqM where
 cl : Nat
 nu : Nat
 ac : Nat
 op : Nat
 re : Nat
 ve : Nat
 wa : Nat
 ow : Nat
 fs : List Fld
 rs : ByteArray
structure RqM.ok (v : RqM) : Prop where
 cl : v.cl < 4294967296
 nu : v.nu < 4294967296
 ac : v.ac < 4294967296
 op : v.op < 256
 re : v.re < 4294967296
 ve : v.ve < 4294967296
 wa : v.wa < 4294967296
 ow : v.ow < 4294967296
 rs : v.rs.size < 9223372036854775808
structure RqC (w : World) (g o : Nat) (v : RqM) (x : Value) : Prop where
 c0 : w.cell? ⟨g, o + 0, none⟩ = some (.int .u32 (v.cl : Nat))
 c1 : w.cell? ⟨g, o + 1, none⟩ = some (.int .u32 (v.nu : Nat))
 c2 : w.cell? ⟨g, o + 2, none⟩ = some (.int .u32 (v.ac : Nat))
 c3 : w.cell? ⟨g, o + 3, none⟩ = some (.int .u8 (v.op : Nat))
 c4 : w.cell? ⟨g, o + 4, none⟩ = some (.int .u32 (v.re : Nat))
 c5 : w.cell? ⟨g, o + 5, none⟩ = some (.int .u32 (v.ve : Nat))
 c6 : w.cell? ⟨g, o + 6, none⟩ = some (.int .u32 (v.wa : Nat))
 c7 : w.cell? ⟨g, o + 7, none⟩ = some (.int .u32 (v.ow : Nat))
 c8 : w.cell? ⟨g, o + 8, none⟩ = some x
 c9 : w.cell? ⟨g, o + 9, none⟩ = some (.string v.rs)
structure RqT (w0 w : World) (cb b g o : Nat) (F0 F : Nat → Prop) (c : CS) (E : Nat → Addr) (v : RqM) (x : Value) : Prop where
 C : Cd w cb b F c E
 r : RqC w g o v x
 s : Stp w0 w F0 F (cellsAt g o 10)
 L : ∀ i, Loc w cb F g i
theorem RqT.fr0 {w0 w w' : World} {cb b g o : Nat} {F0 F : Nat → Prop} {c : CS} {E : Nat → Addr} {v : RqM} {x : Value} (h : RqT w0 w cb b g o F0 F c E v x) (hf : Fr (fun _ => False) w w') : RqT w0 w' cb b g o F0 F c E v x :=
 ⟨h.C.fr0 hf, ⟨kpC hf h.r.c0, kpC hf h.r.c1, kpC hf h.r.c2, kpC hf h.r.c3, kpC hf h.r.c4, kpC hf h.r.c5, kpC hf h.r.c6, kpC hf h.r.c7, kpC hf h.r.c8, kpC hf h.r.c9⟩, h.s.trans (Stp.of_fr hf F (fun _ _ => False)) (fun _ _ _ h => h.elim), fun i => (h.L i).fr0 hf⟩
theorem RqT.s0 {w0 w w' : World} {cb b g o : Nat} {F0 F F' : Nat → Prop} {c c' : CS} {E : Nat → Addr} {v : RqM} {x : Value} (h : RqT w0 w cb b g o F0 F c E v x) (n : Nat) (hC : Cd w' cb b F' c' E) (hc : w'.cell? ⟨g, o + 0, none⟩ = some (.int .u32 (n : Nat))) (hs : Stp w w' F F' (fun k j => k = g ∧ j = o + 0)) : RqT w0 w' cb b g o F0 F' c' E { v with cl := n } x :=
 ⟨hC, ⟨hc, (hs.oth g (o + 1) (h.L 0).lt (h.L 0).nF (fun e => by omega)).trans h.r.c1, (hs.oth g (o + 2) (h.L 0).lt (h.L 0).nF (fun e => by omega)).trans h.r.c2, (hs.oth g (o + 3) (h.L 0).lt (h.L 0).nF (fun e => by omega)).trans h.r.c3, (hs.oth g (o + 4) (h.L 0).lt (h.L 0).nF (fun e => by omega)).trans h.r.c4, (hs.oth g (o + 5) (h.L 0).lt (h.L 0).nF (fun e => by omega)).trans h.r.c5, (hs.oth g (o + 6) (h.L 0).lt (h.L 0).nF (fun e => by omega)).trans h.r.c6, (hs.oth g (o + 7) (h.L 0).lt (h.L 0).nF (fun e => by omega)).trans h.r.c7, (hs.oth g (o + 8) (h.L 0).lt (h.L 0).nF (fun e => by omega)).trans h.r.c8, (hs.oth g (o + 9) (h.L 0).lt (h.L 0).nF (fun e => by omega)).trans h.r.c9⟩, h.s.trans hs (fun k j _ e => ⟨e.1, by omega, by omega⟩), fun i => (h.L i).stp hs⟩
theorem RqT.s1 {w0 w w' : World} {cb b g o : Nat} {F0 F F' : Nat → Prop} {c c' : CS} {E : Nat → Addr} {v : RqM} {x : Value} (h : RqT w0 w cb b g o F0 F c E v x) (n : Nat) (hC : Cd w' cb b F' c' E) (hc : w'.cell? ⟨g, o + 1, none⟩ = some (.int .u32 (n : Nat))) (hs : Stp w w' F F' (fun k j => k = g ∧ j = o + 1)) : RqT w0 w' cb b g o F0 F' c' E { v with nu := n } x :=
 ⟨hC, ⟨(hs.oth g (o + 0) (h.L 0).lt (h.L 0).nF (fun e => by omega)).trans h.r.c0, hc, (hs.oth g (o + 2) (h.L 0).lt (h.L 0).nF (fun e => by omega)).trans h.r.c2, (hs.oth g (o + 3) (h.L 0).lt (h.L 0).nF (fun e => by omega)).trans h.r.c3, (hs.oth g (o + 4) (h.L 0).lt (h.L 0).nF (fun e => by omega)).trans h.r.c4, (hs.oth g (o + 5) (h.L 0).lt (h.L 0).nF (fun e => by omega)).trans h.r.c5, (hs.oth g (o + 6) (h.L 0).lt (h.L 0).nF (fun e => by omega)).trans h.r.c6, (hs.oth g (o + 7) (h.L 0).lt (h.L 0).nF (fun e => by omega)).trans h.r.c7, (hs.oth g (o + 8) (h.L 0).lt (h.L 0).nF (fun e => by omega)).trans h.r.c8, (hs.oth g (o + 9) (h.L 0).lt (h.L 0).nF (fun e => by omega)).trans h.r.c9⟩, h.s.trans hs (fun k j _ e => ⟨e.1, by omega, by omega⟩), fun i => (h.L i).stp hs⟩
theorem RqT.s2 {w0 w w' : World} {cb b g o : Nat} {F0 F F' : Nat → Prop} {c c' : CS} {E : Nat → Addr} {v : RqM} {x : Value} (h : RqT w0 w cb b g o F0 F c E v x) (n : Nat) (hC : Cd w' cb b F' c' E) (hc : w'.cell? ⟨g, o + 2, none⟩ = some (.int .u32 (n : Nat))) (hs : Stp w w' F F' (fun k j => k = g ∧ j = o + 2)) : RqT w0 w' cb b g o F0 F' c' E { v with ac := n } x :=
 ⟨hC, ⟨(hs.oth g (o + 0) (h.L 0).lt (h.L 0).nF (fun e => by omega)).trans h.r.c0, (hs.oth g (o + 1) (h.L 0).lt (h.L 0).nF (fun e => by omega)).trans h.r.c1, hc, (hs.oth g (o + 3) (h.L 0).lt (h.L 0).nF (fun e => by omega)).trans h.r.c3, (hs.oth g (o + 4) (h.L 0).lt (h.L 0).nF (fun e => by omega)).trans h.r.c4, (hs.oth g (o + 5) (h.L 0).lt (h.L 0).nF (fun e => by omega)).trans h.r.c5, (hs.oth g (o + 6) (h.L 0).lt (h.L 0).nF (fun e => by omega)).trans h.r.c6, (hs.oth g (o + 7) (h.L 0).lt (h.L 0).nF (fun e => by omega)).trans h.r.c7, (hs.oth g (o + 8) (h.L 0).lt (h.L 0).nF (fun e => by omega)).trans h.r.c8, (hs.oth g (o + 9) (h.L 0).lt (h.L 0).nF (fun e => by omega)).trans h.r.c9⟩, h.s.trans hs (fun k j _ e => ⟨e.1, by omega, by omega⟩), fun i => (h.L i).stp hs⟩
theorem RqT.s3 {w0 w w' : World} {cb b g o : Nat} {F0 F F' : Nat → Prop} {c c' : CS} {E : Nat → Addr} {v : RqM} {x : Value} (h : RqT w0 w cb b g o F0 F c E v x) (n : Nat) (hC : Cd w' cb b F' c' E) (hc : w'.cell? ⟨g, o + 3, none⟩ = some (.int .u8 (n : Nat))) (hs : Stp w w' F F' (fun k j => k = g ∧ j = o + 3)) : RqT w0 w' cb b g o F0 F' c' E { v with op := n } x :=
 ⟨hC, ⟨(hs.oth g (o + 0) (h.L 0).lt (h.L 0).nF (fun e => by omega)).trans h.r.c0, (hs.oth g (o + 1) (h.L 0).lt (h.L 0).nF (fun e => by omega)).trans h.r.c1, (hs.oth g (o + 2) (h.L 0).lt (h.L 0).nF (fun e => by omega)).trans h.r.c2, hc, (hs.oth g (o + 4) (h.L 0).lt (h.L 0).nF (fun e => by omega)).trans h.r.c4, (hs.oth g (o + 5) (h.L 0).lt (h.L 0).nF (fun e => by omega)).trans h.r.c5, (hs.oth g (o + 6) (h.L 0).lt (h.L 0).nF (fun e => by omega)).trans h.r.c6, (hs.oth g (o + 7) (h.L 0).lt (h.L 0).nF (fun e => by omega)).trans h.r.c7, (hs.oth g (o + 8) (h.L 0).lt (h.L 0).nF (fun e => by omega)).trans h.r.c8, (hs.oth g (o + 9) (h.L 0).lt (h.L 0).nF (fun e => by omega)).trans h.r.c9⟩, h.s.trans hs (fun k j _ e => ⟨e.1, by omega, by omega⟩), fun i => (h.L i).stp hs⟩
theorem RqT.s4 {w0 w w' : World} {cb b g o : Nat} {F0 F F' : Nat → Prop} {c c' : CS} {E : Nat → Addr} {v : RqM} {x : Value} (h : RqT w0 w cb b g o F0 F c E v x) (n : Nat) (hC : Cd w' cb b F' c' E) (hc : w'.cell? ⟨g, o + 4, none⟩ = some (.int .u32 (n : Nat))) (hs : Stp w w' F F' (fun k j => k = g ∧ j = o + 4)) : RqT w0 w' cb b g o F0 F' c' E { v with re := n } x :=
 ⟨hC, ⟨(hs.oth g (o + 0) (h.L 0).lt (h.L 0).nF (fun e => by omega)).trans h.r.c0, (hs.oth g (o + 1) (h.L 0).lt (h.L 0).nF (fun e => by omega)).trans h.r.c1, (hs.oth g (o + 2) (h.L 0).lt (h.L 0).nF (fun e => by omega)).trans h.r.c2, (hs.oth g (o + 3) (h.L 0).lt (h.L 0).nF (fun e => by omega)).trans h.r.c3, hc, (hs.oth g (o + 5) (h.L 0).lt (h.L 0).nF (fun e => by omega)).trans h.r.c5, (hs.oth g (o + 6) (h.L 0).lt (h.L 0).nF (fun e => by omega)).trans h.r.c6, (hs.oth g (o + 7) (h.L 0).lt (h.L 0).nF (fun e => by omega)).trans h.r.c7, (hs.oth g (o + 8) (h.L 0).lt (h.L 0).nF (fun e => by omega)).trans h.r.c8, (hs.oth g (o + 9) (h.L 0).lt (h.L 0).nF (fun e => by omega)).trans h.r.c9⟩, h.s.trans hs (fun k j _ e => ⟨e.1, by omega, by omega⟩), fun i => (h.L i).stp hs⟩
theorem RqT.s5 {w0 w w' : World} {cb b g o : Nat} {F0 F F' : Nat → Prop} {c c' : CS} {E : Nat → Addr} {v : RqM} {x : Value} (h : RqT w0 w cb b g o F0 F c E v x) (n : Nat) (hC : Cd w' cb b F' c' E) (hc : w'.cell? ⟨g, o + 5, none⟩ = some (.int .u32 (n : Nat))) (hs : Stp w w' F F' (fun k j => k = g ∧ j = o + 5)) : RqT w0 w' cb b g o F0 F' c' E { v with ve := n } x :=
 ⟨hC, ⟨(hs.oth g (o + 0) (h.L 0).lt (h.L 0).nF (fun e => by omega)).trans h.r.c0, (hs.oth g (o + 1) (h.L 0).lt (h.L 0).nF (fun e => by omega)).trans h.r.c1, (hs.oth g (o + 2) (h.L 0).lt (h.L 0).nF (fun e => by omega)).trans h.r.c2, (hs.oth g (o + 3) (h.L 0).lt (h.L 0).nF (fun e => by omega)).trans h.r.c3, (hs.oth g (o + 4) (h.L 0).lt (h.L 0).nF (fun e => by omega)).trans h.r.c4, hc, (hs.oth g (o + 6) (h.L 0).lt (h.L 0).nF (fun e => by omega)).trans h.r.c6, (hs.oth g (o + 7) (h.L 0).lt (h.L 0).nF (fun e => by omega)).trans h.r.c7, (hs.oth g (o + 8) (h.L 0).lt (h.L 0).nF (fun e => by omega)).trans h.r.c8, (hs.oth g (o + 9) (h.L 0).lt (h.L 0).nF (fun e => by omega)).trans h.r.c9⟩, h.s.trans hs (fun k j _ e => ⟨e.1, by omega, by omega⟩), fun i => (h.L i).stp hs⟩
theorem RqT.s6 {w0 w w' : World} {cb b g o : Nat} {F0 F F' : Nat → Prop} {c c' : CS} {E : Nat → Addr} {v : RqM} {x : Value} (h : RqT w0 w cb b g o F0 F c E v x) (n : Nat) (hC : Cd w' cb b F' c' E) (hc : w'.cell? ⟨g, o + 6, none⟩ = some (.int .u32 (n : Nat))) (hs : Stp w w' F F' (fun k j => k = g ∧ j = o + 6)) : RqT w0 w' cb b g o F0 F' c' E { v with wa := n } x :=
 ⟨hC, ⟨(hs.oth g (o + 0) (h.L 0).lt (h.L 0).nF (fun e => by omega)).trans h.r.c0, (hs.oth g (o + 1) (h.L 0).lt (h.L 0).nF (fun e => by omega)).trans h.r.c1, (hs.oth g (o + 2) (h.L 0).lt (h.L 0).nF (fun e => by omega)).trans h.r.c2, (hs.oth g (o + 3) (h.L 0).lt (h.L 0).nF (fun e => by omega)).trans h.r.c3, (hs.oth g (o + 4) (h.L 0).lt (h.L 0).nF (fun e => by omega)).trans h.r.c4, (hs.oth g (o + 5) (h.L 0).lt (h.L 0).nF (fun e => by omega)).trans h.r.c5, hc, (hs.oth g (o + 7) (h.L 0).lt (h.L 0).nF (fun e => by omega)).trans h.r.c7, (hs.oth g (o + 8) (h.L 0).lt (h.L 0).nF (fun e => by omega)).trans h.r.c8, (hs.oth g (o + 9) (h.L 0).lt (h.L 0).nF (fun e => by omega)).trans h.r.c9⟩, h.s.trans hs (fun k j _ e => ⟨e.1, by omega, by omega⟩), fun i => (h.L i).stp hs⟩
theorem RqT.s7 {w0 w w' : World} {cb b g o : Nat} {F0 F F' : Nat → Prop} {c c' : CS} {E : Nat → Addr} {v : RqM} {x : Value} (h : RqT w0 w cb b g o F0 F c E v x) (n : Nat) (hC : Cd w' cb b F' c' E) (hc : w'.cell? ⟨g, o + 7, none⟩ = some (.int .u32 (n : Nat))) (hs : Stp w w' F F' (fun k j => k = g ∧ j = o + 7)) : RqT w0 w' cb b g o F0 F' c' E { v with ow := n } x :=
 ⟨hC, ⟨(hs.oth g (o + 0) (h.L 0).lt (h.L 0).nF (fun e => by omega)).trans h.r.c0, (hs.oth g (o + 1) (h.L 0).lt (h.L 0).nF (fun e => by omega)).trans h.r.c1, (hs.oth g (o + 2) (h.L 0).lt (h.L 0).nF (fun e => by omega)).trans h.r.c2, (hs.oth g (o + 3) (h.L 0).lt (h.L 0).nF (fun e => by omega)).trans h.r.c3, (hs.oth g (o + 4) (h.L 0).lt (h.L 0).nF (fun e => by omega)).trans h.r.c4, (hs.oth g (o + 5) (h.L 0).lt (h.L 0).nF (fun e => by omega)).trans h.r.c5, (hs.oth g (o + 6) (h.L 0).lt (h.L 0).nF (fun e => by omega)).trans h.r.c6, hc, (hs.oth g (o + 8) (h.L 0).lt (h.L 0).nF (fun e => by omega)).trans h.r.c8, (hs.oth g (o + 9) (h.L 0).lt (h.L 0).nF (fun e => by omega)).trans h.r.c9⟩, h.s.trans hs (fun k j _ e => ⟨e.1, by omega, by omega⟩), fun i => (h.L i).stp hs⟩
theorem RqT.s8 {w0 w w' : World} {cb b g o : Nat} {F0 F F' : Nat → Prop} {c c' : CS} {E : Nat → Addr} {v : RqM} {x : Value} (h : RqT w0 w cb b g o F0 F c E v x) (y : Value) (hC : Cd w' cb b F' c' E) (hc : w'.cell? ⟨g, o + 8, none⟩ = some (y)) (hs : Stp w w' F F' (fun k j => k = g ∧ j = o + 8)) : RqT w0 w' cb b g o F0 F' c' E v y :=
 ⟨hC, ⟨(hs.oth g (o + 0) (h.L 0).lt (h.L 0).nF (fun e => by omega)).trans h.r.c0, (hs.oth g (o + 1) (h.L 0).lt (h.L 0).nF (fun e => by omega)).trans h.r.c1, (hs.oth g (o + 2) (h.L 0).lt (h.L 0).nF (fun e => by omega)).trans h.r.c2, (hs.oth g (o + 3) (h.L 0).lt (h.L 0).nF (fun e => by omega)).trans h.r.c3, (hs.oth g (o + 4) (h.L 0).lt (h.L 0).nF (fun e => by omega)).trans h.r.c4, (hs.oth g (o + 5) (h.L 0).lt (h.L 0).nF (fun e => by omega)).trans h.r.c5, (hs.oth g (o + 6) (h.L 0).lt (h.L 0).nF (fun e => by omega)).trans h.r.c6, (hs.oth g (o + 7) (h.L 0).lt (h.L 0).nF (fun e => by omega)).trans h.r.c7, hc, (hs.oth g (o + 9) (h.L 0).lt (h.L 0).nF (fun e => by omega)).trans h.r.c9⟩, h.s.trans hs (fun k j _ e => ⟨e.1, by omega, by omega⟩), fun i => (h.L i).stp hs⟩
theorem RqT.s9 {w0 w w' : World} {cb b g o : Nat} {F0 F F' : Nat → Prop} {c c' : CS} {E : Nat → Addr} {v : RqM} {x : Value} (h : RqT w0 w cb b g o F0 F c E v x) (y : ByteArray) (hC : Cd w' cb b F' c' E) (hc : w'.cell? ⟨g, o + 9, none⟩ = some (.string y)) (hs : Stp w w' F F' (fun k j => k = g ∧ j = o + 9)) : RqT w0 w' cb b g o F0 F' c' E { v with rs := y } x :=
 ⟨hC, ⟨(hs.oth g (o + 0) (h.L 0).lt (h.L 0).nF (fun e => by omega)).trans h.r.c0, (hs.oth g (o + 1) (h.L 0).lt (h.L 0).nF (fun e => by omega)).trans h.r.c1, (hs.oth g (o + 2) (h.L 0).lt (h.L 0).nF (fun e => by omega)).trans h.r.c2, (hs.oth g (o + 3) (h.L 0).lt (h.L 0).nF (fun e => by omega)).trans h.r.c3, (hs.oth g (o + 4) (h.L 0).lt (h.L 0).nF (fun e => by omega)).trans h.r.c4, (hs.oth g (o + 5) (h.L 0).lt (h.L 0).nF (fun e => by omega)).trans h.r.c5, (hs.oth g (o + 6) (h.L 0).lt (h.L 0).nF (fun e => by omega)).trans h.r.c6, (hs.oth g (o + 7) (h.L 0).lt (h.L 0).nF (fun e => by omega)).trans h.r.c7, (hs.oth g (o + 8) (h.L 0).lt (h.L 0).nF (fun e => by omega)).trans h.r.c8, hc⟩, h.s.trans hs (fun k j _ e => ⟨e.1, by omega, by omega⟩), fun i => (h.L i).stp hs⟩
theorem RqT.sId {w0 w w' : World} {cb b g o : Nat} {F0 F F' : Nat → Prop} {c c' : CS} {E : Nat → Addr} {v : RqM} {x : Value} (h : RqT w0 w cb b g o F0 F c E v x) (n m : Nat) (hC : Cd w' cb b F' c' E) (h0 : w'.cell? ⟨g, o + 0, none⟩ = some (.int .u32 (n : Nat))) (h1 : w'.cell? ⟨g, o + 1, none⟩ = some (.int .u32 (m : Nat))) (hs : Stp w w' F F' (cellsAt g o 2)) : RqT w0 w' cb b g o F0 F' c' E { v with cl := n, nu := m } x :=
 ⟨hC, ⟨h0, h1, (hs.oth g (o + 2) (h.L 0).lt (h.L 0).nF (fun e => by have := e.2; omega)).trans h.r.c2, (hs.oth g (o + 3) (h.L 0).lt (h.L 0).nF (fun e => by have := e.2; omega)).trans h.r.c3, (hs.oth g (o + 4) (h.L 0).lt (h.L 0).nF (fun e => by have := e.2; omega)).trans h.r.c4, (hs.oth g (o + 5) (h.L 0).lt (h.L 0).nF (fun e => by have := e.2; omega)).trans h.r.c5, (hs.oth g (o + 6) (h.L 0).lt (h.L 0).nF (fun e => by have := e.2; omega)).trans h.r.c6, (hs.oth g (o + 7) (h.L 0).lt (h.L 0).nF (fun e => by have := e.2; omega)).trans h.r.c7, (hs.oth g (o + 8) (h.L 0).lt (h.L 0).nF (fun e => by have := e.2; omega)).trans h.r.c8, (hs.oth g (o + 9) (h.L 0).lt (h.L 0).nF (fun e => by have := e.2; omega)).trans h.r.c9⟩, h.s.trans hs (fun k j _ e => ⟨e.1, by have := e.2; omega, by have := e.2; omega⟩), fun i => (h.L i).stp hs⟩
theorem ruc_one3 {α : Type} {en : World → Value → α → Prop} {w w1 : World} {cb b g i : Nat} {F K0 : Nat → Prop} {c : CS} {E : Nat → Addr} {r : α → Nat} {fv : Value} (T : TypeId) (h : Cd w cb b F c E) (hL : Loc w cb F g i) (hF : FnR en w1 K0 fv E r) (hf : Fr (fun _ => False) w w1) (hK : ∀ k, K0 k → ¬ F k ∧ k ≠ g) :
  RuC en (w1.alloc (.cells #[fv] T)) F g (.slice (some ⟨w1.heap.size, 0, none⟩) 1 1) E [r] := by
 have hb := box1 w1 (.cells #[fv] T)
 have hlt : ∀ k, (K0 k ∨ k = w1.heap.size) → k < (w1.alloc (.cells #[fv] T)).heap.size := fun k hk => by
  rcases hk with hk | rfl
  ·exact Nat.lt_of_lt_of_le (hF.lt k hk) hb.size
  ·simp
 refine ⟨⟨fun k => K0 k ∨ k = w1.heap.size, ⟨hlt, ⟨_, _, rfl⟩, fun _ _ _ e => .inr ⟨w1.heap.size, 0, by cases e; rfl⟩, fun xo n c' e j r' hr => ?_⟩, fun k hk => ?_⟩, by simp⟩
 ·have ex : xo = some ⟨w1.heap.size, 0, none⟩ := by cases e; rfl
  have hj : j = 0 := by
   have := (List.getElem?_eq_some_iff.1 hr).1
   simp at this; exact this
  subst hj
  obtain rfl : r = r' := by simpa using hr
  exact ⟨w1.heap.size, 0, fv, ex, .inr rfl, by simp, hF.mono (fun k hk => hb.block k (hF.lt k hk) (fun h => h)) (fun _ h => .inl h) hlt⟩
 ·rcases hk with hk | rfl
  ·exact hK k hk
  ·have h1 := hf.size
   have h2 := hL.lt
   exact ⟨fun hx => by have := h.lt _ hx; omega, by omega⟩
theorem num_u8_R {c : CS} {nm : ByteArray} {r : Nat → Nat} {v cb b g o : Nat} {F : Nat → Prop} {E : Nat → Addr} {w w1 : World} {fv : Value} (T : TypeId) (h : Cd w cb b F c E) (hp : w.cell? ⟨g, o, none⟩ = some (.int .u8 (v : Nat))) (hL : Loc w cb F g o) (hv : v < 256) (hR : RR enU8 w w1 E fv r) (hf : Fr (fun _ => False) w w1) (hroom : c.room 1) :
  Calls Tryz.prog 127 #[.pointer (some ⟨cb, 0, none⟩), .string nm, .pointer (some ⟨g, o, none⟩), .slice (some ⟨w1.heap.size, 0, none⟩) 1 1] (w1.alloc (.cells #[fv] T)) fun e w' => e = .returned (.tuple #[]) ∧ ∃ F', Cd w' cb b F' (c.pU8 nm [r] v).1 E ∧ w'.cell? ⟨g, o, none⟩ = some (.int .u8 ((c.pU8 nm [r] v).2 : Nat)) ∧ Stp w w' F F' (fun k j => k = g ∧ j = o) := by
 obtain ⟨K0, hF, hK⟩ := hR
 exact num1_u8 T h hp hL hv hF hf hK hroom
theorem num_u32_R {c : CS} {nm : ByteArray} {r : Nat → Nat} {v cb b g o : Nat} {F : Nat → Prop} {E : Nat → Addr} {w w1 : World} {fv : Value} (T : TypeId) (h : Cd w cb b F c E) (hp : w.cell? ⟨g, o, none⟩ = some (.int .u32 (v : Nat))) (hL : Loc w cb F g o) (hv : v < 4294967296) (hR : RR enU32 w w1 E fv r) (hf : Fr (fun _ => False) w w1) (hroom : c.room 1) :
  Calls Tryz.prog 130 #[.pointer (some ⟨cb, 0, none⟩), .string nm, .pointer (some ⟨g, o, none⟩), .slice (some ⟨w1.heap.size, 0, none⟩) 1 1] (w1.alloc (.cells #[fv] T)) fun e w' => e = .returned (.tuple #[]) ∧ ∃ F', Cd w' cb b F' (c.pU32 nm [r] v).1 E ∧ w'.cell? ⟨g, o, none⟩ = some (.int .u32 ((c.pU32 nm [r] v).2 : Nat)) ∧ Stp w w' F F' (fun k j => k = g ∧ j = o) := by
 obtain ⟨K0, hF, hK⟩ := hR
 exact num1_u32 T h hp hL hv hF hf hK hroom
def CS.q1 (c : CS) (v : RqM) : CS × Nat × Nat := c.pId (v.cl, v.nu)
def CS.q2 (c : CS) (v : RqM) : CS × Nat := (c.q1 v).1.pU32 n_actor [] v.ac
def CS.q3 (c : CS) (v : RqM) : CS × Nat := (c.q2 v).1.pU8 n_op [wiN 1 7 5] v.op
def CS.q4 (c : CS) (v : RqM) : CS × Nat := (c.q3 v).1.pU32 n_record [wiN 0 (lims (c.q3 v).2).1 4] v.re
def CS.q5 (c : CS) (v : RqM) : CS × Nat := (c.q4 v).1.pU32 n_version [wiN 0 (lims (c.q3 v).2).2.1 4] v.ve
def CS.q6 (c : CS) (v : RqM) : CS × Nat := (c.q5 v).1.pU32 n_ward [wiN 0 (lims (c.q3 v).2).2.2.1 4] v.wa
def CS.q7 (c : CS) (v : RqM) : CS × Nat := (c.q6 v).1.pU32 n_owner [wiN 0 (lims (c.q3 v).2).2.2.2.1 4] v.ow
def CS.q8 (c : CS) (v : RqM) : CS × List Fld := (c.q7 v).1.pFields (lims (c.q3 v).2).2.2.2.2.2.2 [wiI 0 (lims (c.q3 v).2).2.2.2.2.1 4] v.fs
def CS.q9 (c : CS) (v : RqM) : CS × ByteArray := (c.q8 v).1.pStr n_reason 64 [fun v => szN 0 64 v.size, rsN (lims (c.q3 v).2).2.2.2.2.2.1] v.rs
def CS.pRequest (c : CS) (v : RqM) : CS × RqM := ((c.q9 v).1, ⟨(c.q1 v).2.1, (c.q1 v).2.2, (c.q2 v).2, (c.q3 v).2, (c.q4 v).2, (c.q5 v).2, (c.q6 v).2, (c.q7 v).2, (c.q8 v).2, (c.q9 v).2⟩)
structure LmB (w : World) (lb op : Nat) (F : Nat → Prop) (g : Nat) : Prop where
 c0 : w.cell? ⟨lb, 0, none⟩ = some (.int .u32 ((lims op).1 : Nat))
 c1 : w.cell? ⟨lb, 1, none⟩ = some (.int .u32 ((lims op).2.1 : Nat))
 c2 : w.cell? ⟨lb, 2, none⟩ = some (.int .u32 ((lims op).2.2.1 : Nat))
 c3 : w.cell? ⟨lb, 3, none⟩ = some (.int .u32 ((lims op).2.2.2.1 : Nat))
 c4 : w.cell? ⟨lb, 4, none⟩ = some (.int .i64 (lims op).2.2.2.2.1)
 c5 : w.cell? ⟨lb, 5, none⟩ = some (.int .i64 (lims op).2.2.2.2.2.1)
 c6 : w.cell? ⟨lb, 6, none⟩ = some (.int .u8 ((lims op).2.2.2.2.2.2 : Nat))
 nF : ¬ F lb
 ng : lb ≠ g
theorem LmB.stp {w w' : World} {lb op : Nat} {F F' : Nat → Prop} {P : Nat → Nat → Prop} {g : Nat} (h : LmB w lb op F g) (hs : Stp w w' F F' P) (hP : ∀ i, ¬ P lb i) : LmB w' lb op F' g :=
 ⟨(hs.oth lb 0 (ltC h.c0) h.nF (hP 0)).trans h.c0, (hs.oth lb 1 (ltC h.c0) h.nF (hP 1)).trans h.c1, (hs.oth lb 2 (ltC h.c0) h.nF (hP 2)).trans h.c2, (hs.oth lb 3 (ltC h.c0) h.nF (hP 3)).trans h.c3, (hs.oth lb 4 (ltC h.c0) h.nF (hP 4)).trans h.c4, (hs.oth lb 5 (ltC h.c0) h.nF (hP 5)).trans h.c5, (hs.oth lb 6 (ltC h.c0) h.nF (hP 6)).trans h.c6, hs.nF (ltC h.c0) h.nF, h.ng⟩
set_option maxHeartbeats 4000000 in
set_option maxRecDepth 100000 in
theorem request_any (c : CS) (v : RqM) (x : Value) (cb b g o : Nat) (F : Nat → Prop) (E : Nat → Addr) (w : World) (h : Cd w cb b F c E) (hp : RqC w g o v x) (hX : FdX w c x v.fs F g) (hL : ∀ i, Loc w cb F g i) (hv : v.ok) (hroom : c.room 220) :
  Calls Tryz.prog 108 #[.pointer (some ⟨cb, 0, none⟩), .pointer (some ⟨g, o, none⟩)] w fun e w' => e = .returned (.tuple #[]) ∧ ∃ F' x', Cd w' cb b F' (c.pRequest v).1 E ∧ RqC w' g o { (c.pRequest v).2 with fs := v.fs } x' ∧ FdO w w' c x x' (c.pRequest v).2.fs F' ∧ Stp w w' F F' (cellsAt g o 10) := by
 have hsf := st_func
 have hmf := mf
 have R1 : (c.q1 v).1.room 218 := CS.pId_room hroom _
 have R2 : (c.q2 v).1.room 217 := CS.pU32_room R1 _ _ _
 have R3 : (c.q3 v).1.room 216 := CS.pU8_room R2 _ _ _
 have R4 : (c.q4 v).1.room 215 := CS.pU32_room R3 _ _ _
 have R5 : (c.q5 v).1.room 214 := CS.pU32_room R4 _ _ _
 have R6 : (c.q6 v).1.room 213 := CS.pU32_room R5 _ _ _
 have R7 : (c.q7 v).1.room 212 := CS.pU32_room R6 _ _ _
 have R8 : (c.q8 v).1.room 83 := CS.pFields_room R7 _ _ _
 have M7 : c.sm (c.q7 v).1 := CS.sm_trans (CS.sm_trans (CS.sm_trans (CS.sm_trans (CS.sm_trans (CS.sm_trans (c.pId_sm _) (CS.pU32_sm _ _ _ _)) (CS.pU8_sm _ _ _ _)) (CS.pU32_sm _ _ _ _)) (CS.pU32_sm _ _ _ _)) (CS.pU32_sm _ _ _ _)) (CS.pU32_sm _ _ _ _)
 have HR := hid (And.intro hroom (And.intro R1 (And.intro R2 (And.intro R3 (And.intro R4 (And.intro R5 (And.intro R6 (And.intro R7 (And.intro R8 M7)))))))))
 clear R1 R2 R3 R4 R5 R6 R7 R8 M7
 have HV := hid hv
 have HX := hid hX
 have hT0 : RqT w w cb b g o F F c E v x := ⟨h, hp, Stp.refl _ _ _, hL⟩
 have HI := hid (id_any c (v.cl, v.nu) cb b g o F E w h hp.c0 hp.c1 hL hv.cl hv.nu (CS.room_le hroom (by decide)))
 have HT0 := hid hT0
 clear h hp hX hL hv hT0 hroom
 go_enter Tryz.func108, Tryz.ntmps108
 go_wp2_with fail
 refine (uh HI).mono ?_
 rintro e w1 ⟨rfl, F1, hC1, hi0, hi1, hs1⟩
 have HT1 : Hid (RqT w w1 cb b g o F F1 (c.q1 v).1 E ⟨(c.q1 v).2.1, (c.q1 v).2.2, v.ac, v.op, v.re, v.ve, v.wa, v.ow, v.fs, v.rs⟩ x) := (uh HT0).sId _ _ hC1 hi0 hi1 hs1
 have HA := hid (number_u32 (c.q1 v).1 n_actor [] v.ac cb b g (o + 2) F1 E (.slice none 0 0) w1 (uh HT1).C (uh HT1).r.c2 ((uh HT1).L _) (uh HV).ac (RuC.nil _ w1 F1 g E) (CS.room_le (uh HR).2.1 (by decide)))
 clear hC1 hi0 hi1 hs1 HI
 go_wp2_with fail
 refine (uh HA).mono ?_
 rintro e w2 ⟨rfl, F2, hC2, hc2, hs2⟩
 have HT2 : Hid (RqT w w2 cb b g o F F2 (c.q2 v).1 E ⟨(c.q1 v).2.1, (c.q1 v).2.2, (c.q2 v).2, v.op, v.re, v.ve, v.wa, v.ow, v.fs, v.rs⟩ x) := (uh HT1).s2 _ hC2 hc2 hs2
 have HK2 := hid (fun (V : World) (hv : Fr (fun _ => False) w2 V) => kpC hv (uh HT2).C.g7.k5)
 clear hC2 hc2 hs2 HA
 go_wp2_with fail
 refine wp_region_last (n := 7) (m := 7) (S := fun V => Fr (fun _ => False) w2 V) (by kernel_rfl) rfl rfl rfl (by kernel_rfl) (by kernel_rfl) ((Fr.refl _ _).drew) (fun hHeld => ?_)
 refine wtk (i := 0) (v := ?_) rfl (Or.inl ⟨by rfl, ?_⟩) hHeld ?_
 rotate_left
 ·intro V hSw; (try dsimp only at hSw); have q0 := (uh HK2) V hSw; go_simp; (try with_reducible rfl)
 (try simp only [Act.put, nrm])
 refine wtk (i := 1) (v := ?_) rfl (Or.inl ⟨by rfl, ?_⟩) hHeld ?_
 rotate_left
 ·intro V hSw; (try dsimp only at hSw); have q0 := (uh HK2) V hSw; go_simp; (try with_reducible rfl)
 (try simp only [Act.put, nrm])
 refine wtk (i := 2) (v := ?_) rfl (Or.inl ⟨by rfl, ?_⟩) hHeld ?_
 rotate_left
 ·intro V hSw; (try dsimp only at hSw); have q0 := (uh HK2) V hSw; go_simp; (try with_reducible rfl)
 (try simp only [Act.put, nrm])
 refine wtk (i := 3) (v := ?_) rfl (Or.inl ⟨by rfl, ?_⟩) hHeld ?_
 rotate_left
 ·intro V hSw; (try dsimp only at hSw); have q0 := (uh HK2) V hSw; go_simp; (try with_reducible rfl)
 (try simp only [Act.put, nrm])
 refine wtk (i := 4) (v := ?_) rfl (Or.inl ⟨by rfl, ?_⟩) hHeld ?_
 rotate_left
 ·intro V hSw; (try dsimp only at hSw); have q0 := (uh HK2) V hSw; go_simp; (try with_reducible rfl)
 (try simp only [Act.put, nrm])
 refine wpAnyH_ready (rs := [5]) (by kernel_rfl) (by simp) (AllReadyH.cons rfl (fun K hK => ?_) AllReadyH.nil)
 go_simp
 refine (within_u8 1 7 5 E _ (by decide)).mono ?_
 rintro e w3 ⟨fv1, rfl, K1, hF1, hf1, hK1⟩
 have H3 := hid (And.intro (show RR enU8 w2 w3 E fv1 (wiN 1 7 5) from ⟨K1, hF1, hK1.mono (Nat.le_refl _)⟩) ((Fr.refl _ _).drew.trans hf1 (fun _ _ h => h)))
 obtain ⟨Fc1, caps1, rfl, _⟩ := hF1.ex
 clear hF1 hf1 hK1
 go_simp
 refine hK.out _ _ ((uh H3).2) (fun hHeld => ?_)
 clear hK K
 (try simp only [Act.put, nrm])
 refine wpAnyH_ready (rs := [6]) (by kernel_rfl) (by simp) (AllReadyH.cons rfl (fun K hK => ?_) AllReadyH.nil)
 go_simp
 refine hK.out _ _ ((uh H3).2.alloc _) (fun hHeld => ?_)
 clear hK K
 (try simp only [Act.put, nrm])
 refine wpAnyH_done (by kernel_rfl) ?_ _
 simp only [lastQ]
 go_simp
 refine (num_u8_R (nm := n_op) _ (uh HT2).C (uh HT2).r.c3 ((uh HT2).L _) (uh HV).op (uh H3).1 (uh H3).2 (CS.room_le (uh HR).2.2.1 (by decide))).mono ?_
 rintro e w4 ⟨rfl, F4, hC4, hc4, hs4⟩
 have HT4 : Hid (RqT w w4 cb b g o F F4 (c.q3 v).1 E ⟨(c.q1 v).2.1, (c.q1 v).2.2, (c.q2 v).2, (c.q3 v).2, v.re, v.ve, v.wa, v.ow, v.fs, v.rs⟩ x) := (uh HT2).s3 _ hC4 hc4 hs4
 have o4 : w4.cell? ⟨g, o + 3, none⟩ = some (.int .u8 ((c.q3 v).2 : Nat)) := (uh HT4).r.c3
 have HLM := hid (limitsOf_any (c.q3 v).2 w4)
 unfold limA at HLM
 clear hC4 hc4 hs4 H3 HK2
 go_wp2_with fail
 refine (uh HLM).mono ?_
 rintro e w5 ⟨rfl, hf5⟩
 obtain ⟨w6, hw6⟩ : ∃ w6, w6 = w5.alloc (.cells #[.int .u32 ((lims (c.q3 v).2).1 : Nat), .int .u32 ((lims (c.q3 v).2).2.1 : Nat), .int .u32 ((lims (c.q3 v).2).2.2.1 : Nat), .int .u32 ((lims (c.q3 v).2).2.2.2.1 : Nat), .int .i64 (lims (c.q3 v).2).2.2.2.2.1, .int .i64 (lims (c.q3 v).2).2.2.2.2.2.1, .int .u8 ((lims (c.q3 v).2).2.2.2.2.2.2 : Nat)] 248) := ⟨_, rfl⟩
 have hf6 : Fr (fun _ => False) w4 w6 := by rw [hw6]; exact hf5.alloc _
 have hb6 : w6.heap[w5.heap.size]? = some (.cells #[.int .u32 ((lims (c.q3 v).2).1 : Nat), .int .u32 ((lims (c.q3 v).2).2.1 : Nat), .int .u32 ((lims (c.q3 v).2).2.2.1 : Nat), .int .u32 ((lims (c.q3 v).2).2.2.2.1 : Nat), .int .i64 (lims (c.q3 v).2).2.2.2.2.1, .int .i64 (lims (c.q3 v).2).2.2.2.2.2.1, .int .u8 ((lims (c.q3 v).2).2.2.2.2.2.2 : Nat)] 248) := by rw [hw6]; exact heap_alloc_new _ _
 have HT6 := hid ((uh HT4).fr0 hf6)
 have hl5 := hf5.size
 have HB6 : Hid (LmB w6 w5.heap.size (c.q3 v).2 F4 g) := ⟨cOB hb6 rfl, cOB hb6 rfl, cOB hb6 rfl, cOB hb6 rfl, cOB hb6 rfl, cOB hb6 rfl, cOB hb6 rfl, fun hx => by have := (uh HT4).C.lt _ hx; omega, by have := ((uh HT4).L 0).lt; omega⟩
 have HW6 := hid hw6
 clear hf5 hw6 hf6 hb6 o4 HLM hl5
 go_wp2_with fail
 rw [← uh HW6]
 clear HW6
 generalize w5.heap.size = lb at *
 have HK4 := hid (fun (V : World) (hv : Fr (fun _ => False) w6 V) => And.intro (kpC hv (uh HT6).C.g7.k4) (kpC hv (uh HB6).c0))
 refine wp_region_last (n := 9) (m := 9) (S := fun V => Fr (fun _ => False) w6 V) (by kernel_rfl) rfl rfl rfl (by kernel_rfl) (by kernel_rfl) ((Fr.refl _ _).drew) (fun hHeld => ?_)
 refine wtk (i := 0) (v := ?_) rfl (Or.inl ⟨by rfl, ?_⟩) hHeld ?_
 rotate_left
 ·intro V hSw; (try dsimp only at hSw); obtain ⟨q0, q1⟩ := (uh HK4) V hSw; go_simp; (try with_reducible rfl)
 (try simp only [Act.put, nrm])
 refine wtk (i := 1) (v := ?_) rfl (Or.inl ⟨by rfl, ?_⟩) hHeld ?_
 rotate_left
 ·intro V hSw; (try dsimp only at hSw); obtain ⟨q0, q1⟩ := (uh HK4) V hSw; go_simp; (try with_reducible rfl)
 (try simp only [Act.put, nrm])
 refine wtk (i := 2) (v := ?_) rfl (Or.inl ⟨by rfl, ?_⟩) hHeld ?_
 rotate_left
 ·intro V hSw; (try dsimp only at hSw); obtain ⟨q0, q1⟩ := (uh HK4) V hSw; go_simp; (try with_reducible rfl)
 (try simp only [Act.put, nrm])
 refine wtk (i := 3) (v := ?_) rfl (Or.inl ⟨by rfl, ?_⟩) hHeld ?_
 rotate_left
 ·intro V hSw; (try dsimp only at hSw); obtain ⟨q0, q1⟩ := (uh HK4) V hSw; go_simp; (try with_reducible rfl)
 (try simp only [Act.put, nrm])
 refine wtk (i := 4) (v := ?_) rfl (Or.inl ⟨by rfl, ?_⟩) hHeld ?_
 rotate_left
 ·intro V hSw; (try dsimp only at hSw); obtain ⟨q0, q1⟩ := (uh HK4) V hSw; go_simp; (try with_reducible rfl)
 (try simp only [Act.put, nrm])
 refine wtk (i := 5) (v := ?_) rfl (Or.inl ⟨by rfl, ?_⟩) hHeld ?_
 rotate_left
 ·intro V hSw; (try dsimp only at hSw); obtain ⟨q0, q1⟩ := (uh HK4) V hSw; go_simp; (try with_reducible rfl)
 (try simp only [Act.put, nrm])
 refine wtk (i := 6) (v := ?_) rfl (Or.inl ⟨by rfl, ?_⟩) hHeld ?_
 rotate_left
 ·intro V hSw; (try dsimp only at hSw); obtain ⟨q0, q1⟩ := (uh HK4) V hSw; go_simp; (try with_reducible rfl)
 (try simp only [Act.put, nrm])
 refine wpAnyH_ready (rs := [7]) (by kernel_rfl) (by simp) (AllReadyH.cons rfl (fun K hK => ?_) AllReadyH.nil)
 go_simp
 refine (within_u32 0 (lims (c.q3 v).2).1 4 E _ (by decide)).mono ?_
 rintro e w4a ⟨fv1, rfl, K1, hF1, hf1, hK1⟩
 have H3 := hid (And.intro (show RR enU32 w6 w4a E fv1 (wiN 0 (lims (c.q3 v).2).1 4) from ⟨K1, hF1, hK1.mono (Nat.le_refl _)⟩) ((Fr.refl _ _).drew.trans hf1 (fun _ _ h => h)))
 obtain ⟨Fc1, caps1, rfl, _⟩ := hF1.ex
 clear hF1 hf1 hK1
 go_simp
 refine hK.out _ _ ((uh H3).2) (fun hHeld => ?_)
 clear hK K
 (try simp only [Act.put, nrm])
 refine wpAnyH_ready (rs := [8]) (by kernel_rfl) (by simp) (AllReadyH.cons rfl (fun K hK => ?_) AllReadyH.nil)
 go_simp
 refine hK.out _ _ ((uh H3).2.alloc _) (fun hHeld => ?_)
 clear hK K
 (try simp only [Act.put, nrm])
 refine wpAnyH_done (by kernel_rfl) ?_ _
 simp only [lastQ]
 go_simp
 refine (num_u32_R (nm := n_record) _ (uh HT6).C (uh HT6).r.c4 ((uh HT6).L _) (uh HV).re (uh H3).1 (uh H3).2 (CS.room_le (uh HR).2.2.2.1 (by decide))).mono ?_
 rintro e w4b ⟨rfl, F4b, hC4, hc4, hs4⟩
 have HT4b : Hid (RqT w w4b cb b g o F F4b (c.q4 v).1 E ⟨(c.q1 v).2.1, (c.q1 v).2.2, (c.q2 v).2, (c.q3 v).2, (c.q4 v).2, v.ve, v.wa, v.ow, v.fs, v.rs⟩ x) := (uh HT6).s4 _ hC4 hc4 hs4
 have HB4b := hid ((uh HB6).stp hs4 (fun i h => (uh HB6).ng h.1))
 clear hC4 hc4 hs4 H3 HK4
 have HK5 := hid (fun (V : World) (hv : Fr (fun _ => False) w4b V) => And.intro (kpC hv (uh HT4b).C.g7.k4) (kpC hv (uh HB4b).c1))
 go_wp2_with fail
 refine wp_region_last (n := 9) (m := 9) (S := fun V => Fr (fun _ => False) w4b V) (by kernel_rfl) rfl rfl rfl (by kernel_rfl) (by kernel_rfl) ((Fr.refl _ _).drew) (fun hHeld => ?_)
 refine wtk (i := 0) (v := ?_) rfl (Or.inl ⟨by rfl, ?_⟩) hHeld ?_
 rotate_left
 ·intro V hSw; (try dsimp only at hSw); obtain ⟨q0, q1⟩ := (uh HK5) V hSw; go_simp; (try with_reducible rfl)
 (try simp only [Act.put, nrm])
 refine wtk (i := 1) (v := ?_) rfl (Or.inl ⟨by rfl, ?_⟩) hHeld ?_
 rotate_left
 ·intro V hSw; (try dsimp only at hSw); obtain ⟨q0, q1⟩ := (uh HK5) V hSw; go_simp; (try with_reducible rfl)
 (try simp only [Act.put, nrm])
 refine wtk (i := 2) (v := ?_) rfl (Or.inl ⟨by rfl, ?_⟩) hHeld ?_
 rotate_left
 ·intro V hSw; (try dsimp only at hSw); obtain ⟨q0, q1⟩ := (uh HK5) V hSw; go_simp; (try with_reducible rfl)
 (try simp only [Act.put, nrm])
 refine wtk (i := 3) (v := ?_) rfl (Or.inl ⟨by rfl, ?_⟩) hHeld ?_
 rotate_left
 ·intro V hSw; (try dsimp only at hSw); obtain ⟨q0, q1⟩ := (uh HK5) V hSw; go_simp; (try with_reducible rfl)
 (try simp only [Act.put, nrm])
 refine wtk (i := 4) (v := ?_) rfl (Or.inl ⟨by rfl, ?_⟩) hHeld ?_
 rotate_left
 ·intro V hSw; (try dsimp only at hSw); obtain ⟨q0, q1⟩ := (uh HK5) V hSw; go_simp; (try with_reducible rfl)
 (try simp only [Act.put, nrm])
 refine wtk (i := 5) (v := ?_) rfl (Or.inl ⟨by rfl, ?_⟩) hHeld ?_
 rotate_left
 ·intro V hSw; (try dsimp only at hSw); obtain ⟨q0, q1⟩ := (uh HK5) V hSw; go_simp; (try with_reducible rfl)
 (try simp only [Act.put, nrm])
 refine wtk (i := 6) (v := ?_) rfl (Or.inl ⟨by rfl, ?_⟩) hHeld ?_
 rotate_left
 ·intro V hSw; (try dsimp only at hSw); obtain ⟨q0, q1⟩ := (uh HK5) V hSw; go_simp; (try with_reducible rfl)
 (try simp only [Act.put, nrm])
 refine wpAnyH_ready (rs := [7]) (by kernel_rfl) (by simp) (AllReadyH.cons rfl (fun K hK => ?_) AllReadyH.nil)
 go_simp
 refine (within_u32 0 (lims (c.q3 v).2).2.1 4 E _ (by decide)).mono ?_
 rintro e w5a ⟨fv1, rfl, K1, hF1, hf1, hK1⟩
 have H3 := hid (And.intro (show RR enU32 w4b w5a E fv1 (wiN 0 (lims (c.q3 v).2).2.1 4) from ⟨K1, hF1, hK1.mono (Nat.le_refl _)⟩) ((Fr.refl _ _).drew.trans hf1 (fun _ _ h => h)))
 obtain ⟨Fc1, caps1, rfl, _⟩ := hF1.ex
 clear hF1 hf1 hK1
 go_simp
 refine hK.out _ _ ((uh H3).2) (fun hHeld => ?_)
 clear hK K
 (try simp only [Act.put, nrm])
 refine wpAnyH_ready (rs := [8]) (by kernel_rfl) (by simp) (AllReadyH.cons rfl (fun K hK => ?_) AllReadyH.nil)
 go_simp
 refine hK.out _ _ ((uh H3).2.alloc _) (fun hHeld => ?_)
 clear hK K
 (try simp only [Act.put, nrm])
 refine wpAnyH_done (by kernel_rfl) ?_ _
 simp only [lastQ]
 go_simp
 refine (num_u32_R (nm := n_version) _ (uh HT4b).C (uh HT4b).r.c5 ((uh HT4b).L _) (uh HV).ve (uh H3).1 (uh H3).2 (CS.room_le (uh HR).2.2.2.2.1 (by decide))).mono ?_
 rintro e w5b ⟨rfl, F5b, hC4, hc4, hs4⟩
 have HT5b : Hid (RqT w w5b cb b g o F F5b (c.q5 v).1 E ⟨(c.q1 v).2.1, (c.q1 v).2.2, (c.q2 v).2, (c.q3 v).2, (c.q4 v).2, (c.q5 v).2, v.wa, v.ow, v.fs, v.rs⟩ x) := (uh HT4b).s5 _ hC4 hc4 hs4
 have HB5b := hid ((uh HB4b).stp hs4 (fun i h => (uh HB4b).ng h.1))
 clear hC4 hc4 hs4 H3 HK5
 have HK6 := hid (fun (V : World) (hv : Fr (fun _ => False) w5b V) => And.intro (kpC hv (uh HT5b).C.g7.k4) (kpC hv (uh HB5b).c2))
 go_wp2_with fail
 refine wp_region_last (n := 9) (m := 9) (S := fun V => Fr (fun _ => False) w5b V) (by kernel_rfl) rfl rfl rfl (by kernel_rfl) (by kernel_rfl) ((Fr.refl _ _).drew) (fun hHeld => ?_)
 refine wtk (i := 0) (v := ?_) rfl (Or.inl ⟨by rfl, ?_⟩) hHeld ?_
 rotate_left
 ·intro V hSw; (try dsimp only at hSw); obtain ⟨q0, q1⟩ := (uh HK6) V hSw; go_simp; (try with_reducible rfl)
 (try simp only [Act.put, nrm])
 refine wtk (i := 1) (v := ?_) rfl (Or.inl ⟨by rfl, ?_⟩) hHeld ?_
 rotate_left
 ·intro V hSw; (try dsimp only at hSw); obtain ⟨q0, q1⟩ := (uh HK6) V hSw; go_simp; (try with_reducible rfl)
 (try simp only [Act.put, nrm])
 refine wtk (i := 2) (v := ?_) rfl (Or.inl ⟨by rfl, ?_⟩) hHeld ?_
 rotate_left
 ·intro V hSw; (try dsimp only at hSw); obtain ⟨q0, q1⟩ := (uh HK6) V hSw; go_simp; (try with_reducible rfl)
 (try simp only [Act.put, nrm])
 refine wtk (i := 3) (v := ?_) rfl (Or.inl ⟨by rfl, ?_⟩) hHeld ?_
 rotate_left
 ·intro V hSw; (try dsimp only at hSw); obtain ⟨q0, q1⟩ := (uh HK6) V hSw; go_simp; (try with_reducible rfl)
 (try simp only [Act.put, nrm])
 refine wtk (i := 4) (v := ?_) rfl (Or.inl ⟨by rfl, ?_⟩) hHeld ?_
 rotate_left
 ·intro V hSw; (try dsimp only at hSw); obtain ⟨q0, q1⟩ := (uh HK6) V hSw; go_simp; (try with_reducible rfl)
 (try simp only [Act.put, nrm])
 refine wtk (i := 5) (v := ?_) rfl (Or.inl ⟨by rfl, ?_⟩) hHeld ?_
 rotate_left
 ·intro V hSw; (try dsimp only at hSw); obtain ⟨q0, q1⟩ := (uh HK6) V hSw; go_simp; (try with_reducible rfl)
 (try simp only [Act.put, nrm])
 refine wtk (i := 6) (v := ?_) rfl (Or.inl ⟨by rfl, ?_⟩) hHeld ?_
 rotate_left
 ·intro V hSw; (try dsimp only at hSw); obtain ⟨q0, q1⟩ := (uh HK6) V hSw; go_simp; (try with_reducible rfl)
 (try simp only [Act.put, nrm])
 refine wpAnyH_ready (rs := [7]) (by kernel_rfl) (by simp) (AllReadyH.cons rfl (fun K hK => ?_) AllReadyH.nil)
 go_simp
 refine (within_u32 0 (lims (c.q3 v).2).2.2.1 4 E _ (by decide)).mono ?_
 rintro e w6a ⟨fv1, rfl, K1, hF1, hf1, hK1⟩
 have H3 := hid (And.intro (show RR enU32 w5b w6a E fv1 (wiN 0 (lims (c.q3 v).2).2.2.1 4) from ⟨K1, hF1, hK1.mono (Nat.le_refl _)⟩) ((Fr.refl _ _).drew.trans hf1 (fun _ _ h => h)))
 obtain ⟨Fc1, caps1, rfl, _⟩ := hF1.ex
 clear hF1 hf1 hK1
 go_simp
 refine hK.out _ _ ((uh H3).2) (fun hHeld => ?_)
 clear hK K
 (try simp only [Act.put, nrm])
 refine wpAnyH_ready (rs := [8]) (by kernel_rfl) (by simp) (AllReadyH.cons rfl (fun K hK => ?_) AllReadyH.nil)
 go_simp
 refine hK.out _ _ ((uh H3).2.alloc _) (fun hHeld => ?_)
 clear hK K
 (try simp only [Act.put, nrm])
 refine wpAnyH_done (by kernel_rfl) ?_ _
 simp only [lastQ]
 go_simp
 refine (num_u32_R (nm := n_ward) _ (uh HT5b).C (uh HT5b).r.c6 ((uh HT5b).L _) (uh HV).wa (uh H3).1 (uh H3).2 (CS.room_le (uh HR).2.2.2.2.2.1 (by decide))).mono ?_
 rintro e w6b ⟨rfl, F6b, hC4, hc4, hs4⟩
 have HT6b : Hid (RqT w w6b cb b g o F F6b (c.q6 v).1 E ⟨(c.q1 v).2.1, (c.q1 v).2.2, (c.q2 v).2, (c.q3 v).2, (c.q4 v).2, (c.q5 v).2, (c.q6 v).2, v.ow, v.fs, v.rs⟩ x) := (uh HT5b).s6 _ hC4 hc4 hs4
 have HB6b := hid ((uh HB5b).stp hs4 (fun i h => (uh HB5b).ng h.1))
 clear hC4 hc4 hs4 H3 HK6
 have HK7 := hid (fun (V : World) (hv : Fr (fun _ => False) w6b V) => And.intro (kpC hv (uh HT6b).C.g7.k4) (kpC hv (uh HB6b).c3))
 go_wp2_with fail
 refine wp_region_last (n := 9) (m := 9) (S := fun V => Fr (fun _ => False) w6b V) (by kernel_rfl) rfl rfl rfl (by kernel_rfl) (by kernel_rfl) ((Fr.refl _ _).drew) (fun hHeld => ?_)
 refine wtk (i := 0) (v := ?_) rfl (Or.inl ⟨by rfl, ?_⟩) hHeld ?_
 rotate_left
 ·intro V hSw; (try dsimp only at hSw); obtain ⟨q0, q1⟩ := (uh HK7) V hSw; go_simp; (try with_reducible rfl)
 (try simp only [Act.put, nrm])
 refine wtk (i := 1) (v := ?_) rfl (Or.inl ⟨by rfl, ?_⟩) hHeld ?_
 rotate_left
 ·intro V hSw; (try dsimp only at hSw); obtain ⟨q0, q1⟩ := (uh HK7) V hSw; go_simp; (try with_reducible rfl)
 (try simp only [Act.put, nrm])
 refine wtk (i := 2) (v := ?_) rfl (Or.inl ⟨by rfl, ?_⟩) hHeld ?_
 rotate_left
 ·intro V hSw; (try dsimp only at hSw); obtain ⟨q0, q1⟩ := (uh HK7) V hSw; go_simp; (try with_reducible rfl)
 (try simp only [Act.put, nrm])
 refine wtk (i := 3) (v := ?_) rfl (Or.inl ⟨by rfl, ?_⟩) hHeld ?_
 rotate_left
 ·intro V hSw; (try dsimp only at hSw); obtain ⟨q0, q1⟩ := (uh HK7) V hSw; go_simp; (try with_reducible rfl)
 (try simp only [Act.put, nrm])
 refine wtk (i := 4) (v := ?_) rfl (Or.inl ⟨by rfl, ?_⟩) hHeld ?_
 rotate_left
 ·intro V hSw; (try dsimp only at hSw); obtain ⟨q0, q1⟩ := (uh HK7) V hSw; go_simp; (try with_reducible rfl)
 (try simp only [Act.put, nrm])
 refine wtk (i := 5) (v := ?_) rfl (Or.inl ⟨by rfl, ?_⟩) hHeld ?_
 rotate_left
 ·intro V hSw; (try dsimp only at hSw); obtain ⟨q0, q1⟩ := (uh HK7) V hSw; go_simp; (try with_reducible rfl)
 (try simp only [Act.put, nrm])
 refine wtk (i := 6) (v := ?_) rfl (Or.inl ⟨by rfl, ?_⟩) hHeld ?_
 rotate_left
 ·intro V hSw; (try dsimp only at hSw); obtain ⟨q0, q1⟩ := (uh HK7) V hSw; go_simp; (try with_reducible rfl)
 (try simp only [Act.put, nrm])
 refine wpAnyH_ready (rs := [7]) (by kernel_rfl) (by simp) (AllReadyH.cons rfl (fun K hK => ?_) AllReadyH.nil)
 go_simp
 refine (within_u32 0 (lims (c.q3 v).2).2.2.2.1 4 E _ (by decide)).mono ?_
 rintro e w7a ⟨fv1, rfl, K1, hF1, hf1, hK1⟩
 have H3 := hid (And.intro (show RR enU32 w6b w7a E fv1 (wiN 0 (lims (c.q3 v).2).2.2.2.1 4) from ⟨K1, hF1, hK1.mono (Nat.le_refl _)⟩) ((Fr.refl _ _).drew.trans hf1 (fun _ _ h => h)))
 obtain ⟨Fc1, caps1, rfl, _⟩ := hF1.ex
 clear hF1 hf1 hK1
 go_simp
 refine hK.out _ _ ((uh H3).2) (fun hHeld => ?_)
 clear hK K
 (try simp only [Act.put, nrm])
 refine wpAnyH_ready (rs := [8]) (by kernel_rfl) (by simp) (AllReadyH.cons rfl (fun K hK => ?_) AllReadyH.nil)
 go_simp
 refine hK.out _ _ ((uh H3).2.alloc _) (fun hHeld => ?_)
 clear hK K
 (try simp only [Act.put, nrm])
 refine wpAnyH_done (by kernel_rfl) ?_ _
 simp only [lastQ]
 go_simp
 refine (num_u32_R (nm := n_owner) _ (uh HT6b).C (uh HT6b).r.c7 ((uh HT6b).L _) (uh HV).ow (uh H3).1 (uh H3).2 (CS.room_le (uh HR).2.2.2.2.2.2.1 (by decide))).mono ?_
 rintro e w7b ⟨rfl, F7b, hC4, hc4, hs4⟩
 have HT7b : Hid (RqT w w7b cb b g o F F7b (c.q7 v).1 E ⟨(c.q1 v).2.1, (c.q1 v).2.2, (c.q2 v).2, (c.q3 v).2, (c.q4 v).2, (c.q5 v).2, (c.q6 v).2, (c.q7 v).2, v.fs, v.rs⟩ x) := (uh HT6b).s7 _ hC4 hc4 hs4
 have HB7b := hid ((uh HB6b).stp hs4 (fun i h => (uh HB6b).ng h.1))
 clear hC4 hc4 hs4 H3 HK7
 have HK8 := hid (fun (V : World) (hv : Fr (fun _ => False) w7b V) => And.intro (kpC hv (uh HT7b).C.g7.k4) (And.intro (kpC hv (uh HB7b).c6) (kpC hv (uh HB7b).c4)))
 go_wp2_with fail
 refine wp_region_last (n := 11) (m := 11) (S := fun V => Fr (fun _ => False) w7b V) (by kernel_rfl) rfl rfl rfl (by kernel_rfl) (by kernel_rfl) ((Fr.refl _ _).drew) (fun hHeld => ?_)
 refine wtk (i := 0) (v := ?_) rfl (Or.inl ⟨by rfl, ?_⟩) hHeld ?_
 rotate_left
 ·intro V hSw; (try dsimp only at hSw); obtain ⟨q0, q1, q2⟩ := (uh HK8) V hSw; go_simp; (try with_reducible rfl)
 (try simp only [Act.put, nrm])
 refine wtk (i := 1) (v := ?_) rfl (Or.inl ⟨by rfl, ?_⟩) hHeld ?_
 rotate_left
 ·intro V hSw; (try dsimp only at hSw); obtain ⟨q0, q1, q2⟩ := (uh HK8) V hSw; go_simp; (try with_reducible rfl)
 (try simp only [Act.put, nrm])
 refine wtk (i := 2) (v := ?_) rfl (Or.inl ⟨by rfl, ?_⟩) hHeld ?_
 rotate_left
 ·intro V hSw; (try dsimp only at hSw); obtain ⟨q0, q1, q2⟩ := (uh HK8) V hSw; go_simp; (try with_reducible rfl)
 (try simp only [Act.put, nrm])
 refine wtk (i := 3) (v := ?_) rfl (Or.inl ⟨by rfl, ?_⟩) hHeld ?_
 rotate_left
 ·intro V hSw; (try dsimp only at hSw); obtain ⟨q0, q1, q2⟩ := (uh HK8) V hSw; go_simp; (try with_reducible rfl)
 (try simp only [Act.put, nrm])
 refine wtk (i := 4) (v := ?_) rfl (Or.inl ⟨by rfl, ?_⟩) hHeld ?_
 rotate_left
 ·intro V hSw; (try dsimp only at hSw); obtain ⟨q0, q1, q2⟩ := (uh HK8) V hSw; go_simp; (try with_reducible rfl)
 (try simp only [Act.put, nrm])
 refine wtk (i := 5) (v := ?_) rfl (Or.inl ⟨by rfl, ?_⟩) hHeld ?_
 rotate_left
 ·intro V hSw; (try dsimp only at hSw); obtain ⟨q0, q1, q2⟩ := (uh HK8) V hSw; go_simp; (try with_reducible rfl)
 (try simp only [Act.put, nrm])
 refine wtk (i := 6) (v := ?_) rfl (Or.inl ⟨by rfl, ?_⟩) hHeld ?_
 rotate_left
 ·intro V hSw; (try dsimp only at hSw); obtain ⟨q0, q1, q2⟩ := (uh HK8) V hSw; go_simp; (try with_reducible rfl)
 (try simp only [Act.put, nrm])
 refine wtk (i := 7) (v := ?_) rfl (Or.inl ⟨by rfl, ?_⟩) hHeld ?_
 rotate_left
 ·intro V hSw; (try dsimp only at hSw); obtain ⟨q0, q1, q2⟩ := (uh HK8) V hSw; go_simp; (try with_reducible rfl)
 (try simp only [Act.put, nrm])
 refine wtk (i := 8) (v := ?_) rfl (Or.inl ⟨by rfl, ?_⟩) hHeld ?_
 rotate_left
 ·intro V hSw; (try dsimp only at hSw); obtain ⟨q0, q1, q2⟩ := (uh HK8) V hSw; go_simp; (try with_reducible rfl)
 (try simp only [Act.put, nrm])
 refine wpAnyH_ready (rs := [9]) (by kernel_rfl) (by simp) (AllReadyH.cons rfl (fun K hK => ?_) AllReadyH.nil)
 go_simp
 refine (within_int 0 (lims (c.q3 v).2).2.2.2.2.1 4 E _ (by decide)).mono ?_
 rintro e w8a ⟨fv1, rfl, K1, hF1, hf1, hK1⟩
 have H3 := hid (And.intro (show RR enInt w7b w8a E fv1 (wiI 0 (lims (c.q3 v).2).2.2.2.2.1 4) from ⟨K1, hF1, hK1.mono (Nat.le_refl _)⟩) ((Fr.refl _ _).drew.trans hf1 (fun _ _ h => h)))
 obtain ⟨Fc1, caps1, rfl, _⟩ := hF1.ex
 clear hF1 hf1 hK1
 go_simp
 refine hK.out _ _ ((uh H3).2) (fun hHeld => ?_)
 clear hK K
 (try simp only [Act.put, nrm])
 refine wpAnyH_ready (rs := [10]) (by kernel_rfl) (by simp) (AllReadyH.cons rfl (fun K hK => ?_) AllReadyH.nil)
 go_simp
 refine hK.out _ _ ((uh H3).2.alloc _) (fun hHeld => ?_)
 clear hK K
 (try simp only [Act.put, nrm])
 refine wpAnyH_done (by kernel_rfl) ?_ _
 simp only [lastQ]
 go_simp
 have hT7 := uh HT7b
 have hfa := (uh H3).2.trans (box1 w8a (.cells #[.func (.func Fc1) #[] caps1] 255)) (fun _ _ h => h)
 have hru := (ruc_one2 255 hT7.C (hT7.L (o + 8)) (uh H3).2 (uh H3).1).ex
 have hXa : FdX (w8a.alloc (.cells #[.func (.func Fc1) #[] caps1] 255)) (c.q7 v).1 x v.fs F7b g := (uh HX).stp (hT7.s.trans (Stp.of_fr hfa F7b (fun _ _ => False)) (fun _ _ _ h => h.elim)) (fun k i _ h => h.1) (uh HR).2.2.2.2.2.2.2.2.2.1 (uh HR).2.2.2.2.2.2.2.2.2.2
 refine (fields_any (c.q7 v).1 (lims (c.q3 v).2).2.2.2.2.2.2 [wiI 0 (lims (c.q3 v).2).2.2.2.2.1 4] (some ⟨w8a.heap.size, 0, none⟩) 1 x v.fs cb b g (o + 8) F7b E _ (hT7.C.fr0 hfa) (kpC hfa hT7.r.c8) hXa ((hT7.L _).fr0 hfa) (by obtain ⟨K, h1, h2⟩ := hru; exact ⟨K, h1, fun k hk => (h2 k hk).1⟩) (by simp) (CS.room_le (uh HR).2.2.2.2.2.2.2.1 (by decide))).mono ?_
 rintro e w8 ⟨rfl, F8, x8, hC8, hx8, hO8, hs8⟩
 have hs8' : Stp w7b w8 F7b F8 (fun k j => k = g ∧ j = o + 8) := (Stp.of_fr hfa F7b _).trans hs8 (fun _ _ _ h => h)
 have HT8 : Hid (RqT w w8 cb b g o F F8 (c.q8 v).1 E ⟨(c.q1 v).2.1, (c.q1 v).2.2, (c.q2 v).2, (c.q3 v).2, (c.q4 v).2, (c.q5 v).2, (c.q6 v).2, (c.q7 v).2, v.fs, v.rs⟩ x8) := hT7.s8 x8 hC8 hx8 hs8'
 have HB8 := hid ((uh HB7b).stp hs8' (fun i h => (uh HB7b).ng h.1))
 have hszF := hfa.size
 have hsz7 := hT7.s.size
 have HO8 : Hid ((∀ s, c = .wr s → x8 = x) ∧ (∀ q, c = .rd q → OwV w8 w.heap.size x8 (c.q8 v).2 F8)) := by
  refine ⟨fun s e => ?_, fun q e => ?_⟩
  ·subst e
   cases hm : ((CS.wr s).q7 v).1 with
   | wr s' => exact hO8.wr s' hm
   | rd q' => obtain ⟨_, e'⟩ := (uh HR).2.2.2.2.2.2.2.2.2.2 q' hm; cases e'
  ·subst e
   cases hm : ((CS.rd q).q7 v).1 with
   | wr s' => obtain ⟨_, e'⟩ := (uh HR).2.2.2.2.2.2.2.2.2.1 s' hm; cases e'
   | rd q' =>
    have h9 := hO8.rd q' hm
    exact ⟨h9.nF, ownsRow_base h9.row (by omega), h9.ok⟩
 clear hT7 hfa hru hXa hC8 hx8 hO8 hs8 hs8' H3 HK8 hszF hsz7
 have HRN : Hid (∀ (w9 : World), Fr (fun _ => False) w8 w9 → Calls Tryz.prog 135 #[.pointer (some ⟨cb, 0, none⟩), .string n_reason, .pointer (some ⟨g, o + 9, none⟩), .int .i64 0, .int .i64 64, .slice (some ⟨w9.heap.size, 0, none⟩) 1 1] (w9.alloc (.cells #[.func (.func 136) #[] #[.pointer (some ⟨lb, 0, none⟩)]] 281)) fun e w' => e = .returned (.tuple #[]) ∧ ∃ F', Cd w' cb b F' (c.q9 v).1 E ∧ w'.cell? ⟨g, o + 9, none⟩ = some (.string (c.q9 v).2) ∧ Stp w8 w' F8 F' (fun k j => k = g ∧ j = o + 9)) := fun w9 hf9 => by
  have hT8 := uh HT8
  have hB8 := uh HB8
  have hf2 := hf9.trans (box1 w9 (.cells #[.func (.func 136) #[] #[.pointer (some ⟨lb, 0, none⟩)]] 281)) (fun _ _ h => h)
  have hfn := reason_fn (lims (c.q3 v).2).2.2.2.2.2.1 lb E w9 (kpC hf9 hB8.c5) (hT8.C.g7.fr hf9 (fun _ h => h.elim))
  refine (run_str (c.q8 v).1 n_reason 0 64 [rsN (lims (c.q3 v).2).2.2.2.2.2.1] v.rs cb b g (o + 9) F8 E _ _ (hT8.C.fr0 hf2) (kpC hf2 hT8.r.c9) ((hT8.L _).fr0 hf2) (uh HV).rs (by decide) (ruc_one3 _ hT8.C (hT8.L (o + 9)) hfn hf9 (fun k hk => ?_)) (by simp) (CS.room_le (uh HR).2.2.2.2.2.2.2.2.1 (by decide))).mono ?_
  ·rcases hk with rfl | rfl
   ·exact ⟨hB8.nF, hB8.ng⟩
   ·have hlo := (hT8.L 0).lo
    exact ⟨fun hx => by have := hT8.C.lo _ hx; omega, by omega⟩
  ·rintro e w' ⟨rfl, F', hC, hc, hs⟩
   exact ⟨rfl, F', hC, hc, (Stp.of_fr hf2 F8 _).trans hs (fun _ _ _ h => h)⟩
 go_wp2_with fail
 refine ((uh HRN) w8 (Fr.refl _ _)).mono ?_
 rintro e w10 ⟨rfl, F10, hC10, hc10, hs10⟩
 have hT10 := (uh HT8).s9 _ hC10 hc10 hs10
 have hs010 := (uh HT8).s.size
 have HE : Hid (Cd w10 cb b F10 (c.pRequest v).1 E ∧ RqC w10 g o { (c.pRequest v).2 with fs := v.fs } x8 ∧ FdO w w10 c x x8 (c.pRequest v).2.fs F10 ∧ Stp w w10 F F10 (cellsAt g o 10)) := by
  refine ⟨hT10.C, hT10.r, ⟨fun s e => (uh HO8).1 s e, fun q e => ?_⟩, hT10.s⟩
  have hgw := ((uh HT0).L 0).lt
  exact ((uh HO8).2 q e).stp hs10 (fun k j hb _ h => by omega)
 clear hT10 hC10 hc10 hs10 hs010 HRN HO8 HT8 HB8 HT0 HT1 HT2 HT4 HT6 HX HR HV
 go_wp2_with fail
 go_end0
 exact ⟨rfl, F10, x8, (uh HE).1, (uh HE).2.1, (uh HE).2.2.1, (uh HE).2.2.2⟩
structure EvM where
 pl : Nat
 rq : RqM
 co : Nat
 dg : List Nat
structure EvM.ok (v : EvM) : Prop where
 pl : v.pl < 4294967296
 rq : v.rq.ok
 co : v.co < 256
def CS.e1 (c : CS) (v : EvM) : CS × Nat := c.pU32 n_place [] v.pl
def CS.e2 (c : CS) (v : EvM) : CS × RqM := (c.e1 v).1.pRequest v.rq
def CS.e3 (c : CS) (v : EvM) : CS × Nat := (c.e2 v).1.pCode v.co
def CS.e4 (c : CS) (v : EvM) : CS × List Nat := (c.e3 v).1.pHash n_digest v.dg
def CS.pEvent (c : CS) (v : EvM) : CS × EvM := ((c.e4 v).1, ⟨(c.e1 v).2, (c.e2 v).2, (c.e3 v).2, (c.e4 v).2⟩)
theorem CS.pRequest_sm (c : CS) (v : RqM) : c.sm (c.pRequest v).1 := CS.sm_trans (CS.sm_trans (CS.sm_trans (CS.sm_trans (CS.sm_trans (CS.sm_trans (CS.sm_trans (CS.sm_trans (c.pId_sm _) (CS.pU32_sm _ _ _ _)) (CS.pU8_sm _ _ _ _)) (CS.pU32_sm _ _ _ _)) (CS.pU32_sm _ _ _ _)) (CS.pU32_sm _ _ _ _)) (CS.pU32_sm _ _ _ _)) (CS.pFields_sm _ _ _ _)) (CS.pStr_sm _ _ _ _ _)
theorem CS.pRequest_room {c : CS} {n : Nat} (h : c.room (n + 140)) (v : RqM) : (c.pRequest v).1.room n := by
 have R1 : (c.q1 v).1.room (n + 138) := CS.pId_room h _
 have R2 : (c.q2 v).1.room (n + 137) := CS.pU32_room R1 _ _ _
 have R3 : (c.q3 v).1.room (n + 136) := CS.pU8_room R2 _ _ _
 have R4 : (c.q4 v).1.room (n + 135) := CS.pU32_room R3 _ _ _
 have R5 : (c.q5 v).1.room (n + 134) := CS.pU32_room R4 _ _ _
 have R6 : (c.q6 v).1.room (n + 133) := CS.pU32_room R5 _ _ _
 have R7 : (c.q7 v).1.room (n + 132) := CS.pU32_room R6 _ _ _
 have R8 : (c.q8 v).1.room (n + 3) := CS.pFields_room R7 _ _ _
 have R9 : (c.q9 v).1.room (n + 2) := CS.pStr_room2 R8 _ _ _ _
 exact CS.room_le R9 (by omega)
theorem RqC.stp {w w' : World} {g o : Nat} {v : RqM} {x : Value} {F F' : Nat → Prop} {P : Nat → Nat → Prop} (h : RqC w g o v x) (hs : Stp w w' F F' P) (hg : ¬ F g) (hP : ∀ i, i < 10 → ¬ P g (o + i)) : RqC w' g o v x :=
 ⟨(hs.oth g (o + 0) (ltC h.c0) hg (hP 0 (by decide))).trans h.c0, (hs.oth g (o + 1) (ltC h.c0) hg (hP 1 (by decide))).trans h.c1, (hs.oth g (o + 2) (ltC h.c0) hg (hP 2 (by decide))).trans h.c2, (hs.oth g (o + 3) (ltC h.c0) hg (hP 3 (by decide))).trans h.c3, (hs.oth g (o + 4) (ltC h.c0) hg (hP 4 (by decide))).trans h.c4, (hs.oth g (o + 5) (ltC h.c0) hg (hP 5 (by decide))).trans h.c5, (hs.oth g (o + 6) (ltC h.c0) hg (hP 6 (by decide))).trans h.c6, (hs.oth g (o + 7) (ltC h.c0) hg (hP 7 (by decide))).trans h.c7, (hs.oth g (o + 8) (ltC h.c0) hg (hP 8 (by decide))).trans h.c8, (hs.oth g (o + 9) (ltC h.c0) hg (hP 9 (by decide))).trans h.c9⟩
theorem FdO.stp {w w1 w2 : World} {c : CS} {x x' : Value} {l : List Fld} {F1 F2 : Nat → Prop} {P : Nat → Nat → Prop} {g : Nat} (h : FdO w w1 c x x' l F1) (hs : Stp w1 w2 F1 F2 P) (hg : g < w.heap.size) (hP : ∀ k j, k < w1.heap.size → P k j → k = g) : FdO w w2 c x x' l F2 :=
 ⟨h.wr, fun q e => (h.rd q e).stp hs (fun k j hb hk hp => by have := hP k j hk hp; omega)⟩
theorem FdO.of {w0 w w' : World} {c c' : CS} {x x' : Value} {l : List Fld} {F' : Nat → Prop} (h : FdO w w' c' x x' l F') (hm : c.sm c') (hs : w0.heap.size ≤ w.heap.size) : FdO w0 w' c x x' l F' := by
 refine ⟨fun s e => ?_, fun q e => ?_⟩
 ·cases hc : c' with
  | wr s' => exact h.wr s' hc
  | rd q' => obtain ⟨_, e'⟩ := hm.2 q' hc; rw [e] at e'; cases e'
 ·cases hc : c' with
  | wr s' => obtain ⟨_, e'⟩ := hm.1 s' hc; rw [e] at e'; cases e'
  | rd q' =>
   have h9 := h.rd q' hc
   exact ⟨h9.nF, ownsRow_base h9.row hs, h9.ok⟩
structure EvC (w : World) (g o : Nat) (v : EvM) (x y : Value) : Prop where
 c0 : w.cell? ⟨g, o, none⟩ = some (.int .u32 (v.pl : Nat))
 r : RqC w g (o + 1) v.rq x
 c11 : w.cell? ⟨g, o + 11, none⟩ = some (.int .u8 (v.co : Nat))
 c12 : w.cell? ⟨g, o + 12, none⟩ = some y
set_option maxHeartbeats 2000000 in
set_option maxRecDepth 100000 in
theorem event_any (c : CS) (v : EvM) (x y : Value) (cb b g o : Nat) (F : Nat → Prop) (E : Nat → Addr) (w : World) (h : Cd w cb b F c E) (hp : EvC w g o v x y) (hX : FdX w c x v.rq.fs F g) (hY : BVg w y v.dg F g) (hL : ∀ i, Loc w cb F g i) (hv : v.ok) (hroom : c.room 230) :
  Calls Tryz.prog 110 #[.pointer (some ⟨cb, 0, none⟩), .pointer (some ⟨g, o, none⟩)] w fun e w' => e = .returned (.tuple #[]) ∧ ∃ F' x' y', Cd w' cb b F' (c.pEvent v).1 E ∧ EvC w' g o { (c.pEvent v).2 with rq := { (c.pEvent v).2.rq with fs := v.rq.fs } } x' y' ∧ FdO w w' c x x' (c.pEvent v).2.rq.fs F' ∧ BO w w' c y' (c.pEvent v).2.dg F' g ∧ Stp w w' F F' (cellsAt g o 13) := by
 have R1 : (c.e1 v).1.room 229 := CS.pU32_room hroom _ _ _
 have R2 : (c.e2 v).1.room 89 := CS.pRequest_room R1 _
 have R3 : (c.e3 v).1.room 88 := CS.pU8_room R2 _ _ _
 have M1 : c.sm (c.e1 v).1 := CS.pU32_sm _ _ _ _
 have M3 : c.sm (c.e3 v).1 := CS.sm_trans (CS.sm_trans M1 (CS.pRequest_sm _ _)) (CS.pU8_sm _ _ _ _)
 have hgw := (hL 0).lt
 have hgF := (hL 0).nF
 have HR := hid (And.intro R1 (And.intro R2 (And.intro R3 (And.intro M1 M3))))
 have HV := hid hv
 have HI := hid (number_u32 c n_place [] v.pl cb b g o F E (.slice none 0 0) w h hp.c0 (hL _) hv.pl (RuC.nil _ w F g E) (CS.room_le hroom (by decide)))
 have H := hid (And.intro hp (And.intro hX (And.intro hY hL)))
 clear h hp hX hY hL hv hroom R1 R2 R3 M1 M3
 go_enter Tryz.func110, Tryz.ntmps110
 go_wp2_with fail
 refine (uh HI).mono ?_
 rintro e w1 ⟨rfl, F1, hC1, hc1, hs1⟩
 obtain ⟨hp, hX, hY, hL⟩ := uh H
 have hL1 := fun i => (hL i).stp hs1
 have hr1 : RqC w1 g (o + 1) v.rq x := hp.r.stp hs1 hgF (fun i hi h => by omega)
 have hX1 : FdX w1 (c.e1 v).1 x v.rq.fs F1 g := hX.stp hs1 (fun k i _ h => h.1) (uh HR).2.2.2.1.1 (uh HR).2.2.2.1.2
 have HQ := hid (request_any (c.e1 v).1 v.rq x cb b g (o + 1) F1 E w1 hC1 hr1 hX1 hL1 (uh HV).rq (CS.room_le (uh HR).1 (by decide)))
 have H1 := hid (And.intro hc1 (And.intro ((hs1.oth g (o + 11) hgw hgF (fun h => by omega)).trans hp.c11) (And.intro ((hs1.oth g (o + 12) hgw hgF (fun h => by omega)).trans hp.c12) (And.intro hs1 (And.intro hL1 (hY.stp hs1 (fun k i _ h => h.1)))))))
 clear hp hX hY hL hL1 hr1 hX1 hC1 hc1 hs1 HI
 go_wp2_with fail
 refine (uh HQ).mono ?_
 rintro e w2 ⟨rfl, F2, x2, hC2, hr2, hO2, hs2⟩
 obtain ⟨hc1, h11, h12, hs1, hL1, hY1⟩ := uh H1
 have hg1 := (hL1 0).lt
 have hgF1 := (hL1 0).nF
 have hL2 := fun i => (hL1 i).stp hs2
 have d0 : w2.cell? ⟨g, o, none⟩ = some (.int .u32 ((c.e1 v).2 : Nat)) := (hs2.oth g o hg1 hgF1 (fun h => by have := h.2; omega)).trans hc1
 have d11 : w2.cell? ⟨g, o + 11, none⟩ = some (.int .u8 (v.co : Nat)) := (hs2.oth g (o + 11) hg1 hgF1 (fun h => by have := h.2; omega)).trans h11
 have d12 : w2.cell? ⟨g, o + 12, none⟩ = some y := (hs2.oth g (o + 12) hg1 hgF1 (fun h => by have := h.2; omega)).trans h12
 have hs02 : Stp w w2 F F2 (cellsAt g o 13) := (hs1.mono (P' := cellsAt g o 13) (fun k j _ h => ⟨h.1, by omega, by omega⟩)).trans hs2 (fun k j _ h => ⟨h.1, by have := h.2; omega, by have := h.2; omega⟩)
 have hO2' := hO2.of (uh HR).2.2.2.1 hs1.size
 have HD := hid (code_any (c.e2 v).1 v.co cb b g (o + 11) F2 E w2 hC2 d11 (hL2 _) (uh HV).co (CS.room_le (uh HR).2.1 (by decide)))
 have H2 := hid (And.intro d0 (And.intro hr2 (And.intro d12 (And.intro hs02 (And.intro hL2 (And.intro hO2' (hY1.stp hs2 (fun k i _ h => h.1))))))))
 clear hc1 h11 h12 hs1 hL1 hY1 hg1 hgF1 hL2 d0 d11 d12 hs02 hO2' hC2 hr2 hO2 hs2 H1 HQ
 go_wp2_with fail
 refine (uh HD).mono ?_
 rintro e w3 ⟨rfl, F3, hC3, hc3, hs3⟩
 obtain ⟨d0, hr2, d12, hs02, hL2, hO2, hY2⟩ := uh H2
 have hg2 := (hL2 0).lt
 have hgF2 := (hL2 0).nF
 have hL3 := fun i => (hL2 i).stp hs3
 have hY3 := hY2.stp hs3 (fun k i _ h => h.1)
 have t12 : w3.cell? ⟨g, o + 12, none⟩ = some y := (hs3.oth g (o + 12) hg2 hgF2 (fun h => by omega)).trans d12
 have HG := hid (hash_any (c.e3 v).1 n_digest y v.dg cb b g (o + 12) F3 E w3 hC3 t12 hY3.bv (hL3 _) hY3.len (CS.room_le (uh HR).2.2.1 (by decide)))
 have H3 := hid (And.intro hC3 (And.intro hY3 (And.intro ((hs3.oth g o hg2 hgF2 (fun h => by omega)).trans d0) (And.intro (hr2.stp hs3 hgF2 (fun i hi h => by omega)) (And.intro hc3 (And.intro (hs02.trans hs3 (fun k j _ h => ⟨h.1, by omega, by omega⟩)) (And.intro hL3 (hO2.stp hs3 hgw (fun k j _ h => h.1)))))))))
 clear d0 hr2 d12 hs02 hL2 hO2 hY2 hg2 hgF2 hL3 hY3 t12 hC3 hc3 hs3 H2 HD
 go_wp2_with fail
 refine (uh HG).mono ?_
 rintro e w4 ⟨rfl, F4, y4, hC4, hy4, ho4, hn4, hs4⟩
 obtain ⟨hC3, hY3, t0, hr3, hc3, hs03, hL3, hO3⟩ := uh H3
 have hg3 := (hL3 0).lt
 have hgF3 := (hL3 0).nF
 have hmd : ∀ q, c = .rd q → ∃ q', (c.e3 v).1 = .rd q' := fun q hq => by
  cases hm : (c.e3 v).1 with
  | wr s' => obtain ⟨_, e'⟩ := (uh HR).2.2.2.2.1 s' hm; rw [hq] at e'; cases e'
  | rd q' => exact ⟨q', rfl⟩
 have hbo : BO w w4 c y4 (c.e4 v).2 F4 g := (bo_of hC3 hY3 hg3 hs4 ho4 hn4).mode hs03.size hmd
 have HE : Hid (Cd w4 cb b F4 (c.pEvent v).1 E ∧ EvC w4 g o { (c.pEvent v).2 with rq := { (c.pEvent v).2.rq with fs := v.rq.fs } } x2 y4 ∧ FdO w w4 c x x2 (c.pEvent v).2.rq.fs F4 ∧ BO w w4 c y4 (c.pEvent v).2.dg F4 g ∧ Stp w w4 F F4 (cellsAt g o 13)) :=
  ⟨hC4, ⟨(hs4.oth g o hg3 hgF3 (fun h => by omega)).trans t0, hr3.stp hs4 hgF3 (fun i hi h => by omega), (hs4.oth g (o + 11) hg3 hgF3 (fun h => by omega)).trans hc3, hy4⟩, hO3.stp hs4 hgw (fun k j _ h => h.1), hbo, hs03.trans hs4 (fun k j _ h => ⟨h.1, by omega, by omega⟩)⟩
 clear hC3 hY3 t0 hr3 hc3 hs03 hL3 hO3 hg3 hgF3 hbo hmd hC4 hy4 ho4 hn4 hs4 H3 HG
 go_wp2_with fail
 go_end0
 exact ⟨rfl, F4, x2, y4, (uh HE).1, (uh HE).2.1, (uh HE).2.2.1, (uh HE).2.2.2.1, (uh HE).2.2.2.2⟩
structure SuM where
 au : Nat
 ev : Nat
 fi : Nat
 re : Bool
structure SuM.ok (v : SuM) : Prop where
 au : v.au < 4294967296
 ev : v.ev < 4294967296
 fi : v.fi < 4294967296
def SuM.gone (v : SuM) : Nat := if v.re = true then 1 else 0
def CS.s1 (c : CS) (v : SuM) : CS × Nat := c.pU32 n_author [] v.au
def CS.s2 (c : CS) (v : SuM) : CS × Nat := (c.s1 v).1.pU32 n_event [] v.ev
def CS.s3 (c : CS) (v : SuM) : CS × Nat := (c.s2 v).1.pU32 n_many [] v.fi
def CS.s4 (c : CS) (v : SuM) : CS × Nat := (c.s3 v).1.pU8 n_gone [wiN 0 1 4] v.gone
def CS.pSummary (c : CS) (v : SuM) : CS × SuM := ((c.s4 v).1, ⟨(c.s1 v).2, (c.s2 v).2, (c.s3 v).2, (((c.s4 v).2 : Nat) : Int) == 1⟩)
theorem CS.pSummary_ok (c : CS) (v : SuM) (h : v.ok) : (c.pSummary v).2.ok := ⟨CS.pU32_lt _ _ _ _ h.au, CS.pU32_lt _ _ _ _ h.ev, CS.pU32_lt _ _ _ _ h.fi⟩
theorem CS.pSummary_sm (c : CS) (v : SuM) : c.sm (c.pSummary v).1 := CS.sm_trans (CS.sm_trans (CS.sm_trans (CS.pU32_sm _ _ _ _) (CS.pU32_sm _ _ _ _)) (CS.pU32_sm _ _ _ _)) (CS.pU8_sm _ _ _ _)
theorem CS.pSummary_room {c : CS} {n : Nat} (h : c.room (n + 4)) (v : SuM) : (c.pSummary v).1.room n := CS.pU8_room (CS.pU32_room (CS.pU32_room (CS.pU32_room h _ _ _) _ _ _) _ _ _) _ _ _
structure SuC (w : World) (g : Nat) (v : SuM) : Prop where
 c0 : w.cell? ⟨g, 0, none⟩ = some (.int .u32 (v.au : Nat))
 c1 : w.cell? ⟨g, 1, none⟩ = some (.int .u32 (v.ev : Nat))
 c2 : w.cell? ⟨g, 2, none⟩ = some (.int .u32 (v.fi : Nat))
 c3 : w.cell? ⟨g, 3, none⟩ = some (.bool v.re)
set_option maxHeartbeats 2000000 in
set_option maxRecDepth 100000 in
theorem summary_any (c : CS) (v : SuM) (cb b g : Nat) (F : Nat → Prop) (E : Nat → Addr) (w : World) (h : Cd w cb b F c E) (hp : SuC w g v) (hL : ∀ i, Loc w cb F g i) (hv : v.ok) (hroom : c.room 4) :
  Calls Tryz.prog 139 #[.pointer (some ⟨cb, 0, none⟩), .pointer (some ⟨g, 0, none⟩)] w fun e w' => e = .returned (.tuple #[]) ∧ ∃ F', Cd w' cb b F' (c.pSummary v).1 E ∧ SuC w' g (c.pSummary v).2 ∧ Stp w w' F F' (cellsAt g 0 4) := by
 have hsf := st_func
 have R1 : (c.s1 v).1.room 3 := CS.pU32_room hroom _ _ _
 have R2 : (c.s2 v).1.room 2 := CS.pU32_room R1 _ _ _
 have R3 : (c.s3 v).1.room 1 := CS.pU32_room R2 _ _ _
 have HR := hid (And.intro R1 (And.intro R2 R3))
 have HV := hid hv
 have hgw := (hL 0).lt
 have hgF := (hL 0).nF
 have HI := hid (number_u32 c n_author [] v.au cb b g 0 F E (.slice none 0 0) w h hp.c0 (hL _) hv.au (RuC.nil _ w F g E) (CS.room_le hroom (by decide)))
 have H := hid (And.intro hp hL)
 clear h hp hL hv hroom R1 R2 R3
 go_enter Tryz.func139, Tryz.ntmps139
 go_wp2_with fail
 refine (uh HI).mono ?_
 rintro e w1 ⟨rfl, F1, hC1, hc1, hs1⟩
 obtain ⟨hp, hL⟩ := uh H
 have hL1 := fun i => (hL i).stp hs1
 have HI2 := hid (number_u32 (c.s1 v).1 n_event [] v.ev cb b g 1 F1 E (.slice none 0 0) w1 hC1 ((hs1.oth g 1 hgw hgF (fun h => by omega)).trans hp.c1) (hL1 _) (uh HV).ev (RuC.nil _ w1 F1 g E) (CS.room_le (uh HR).1 (by decide)))
 have H1 := hid (And.intro hc1 (And.intro ((hs1.oth g 2 hgw hgF (fun h => by omega)).trans hp.c2) (And.intro ((hs1.oth g 3 hgw hgF (fun h => by omega)).trans hp.c3) (And.intro hs1 hL1))))
 clear hp hL hL1 hC1 hc1 hs1 HI
 go_wp2_with fail
 refine (uh HI2).mono ?_
 rintro e w2 ⟨rfl, F2, hC2, hc2, hs2⟩
 obtain ⟨hc1, h2, h3, hs1, hL1⟩ := uh H1
 have hg1 := (hL1 0).lt
 have hgF1 := (hL1 0).nF
 have hL2 := fun i => (hL1 i).stp hs2
 have HI3 := hid (number_u32 (c.s2 v).1 n_many [] v.fi cb b g 2 F2 E (.slice none 0 0) w2 hC2 ((hs2.oth g 2 hg1 hgF1 (fun h => by omega)).trans h2) (hL2 _) (uh HV).fi (RuC.nil _ w2 F2 g E) (CS.room_le (uh HR).2.1 (by decide)))
 have H2 := hid (And.intro ((hs2.oth g 0 hg1 hgF1 (fun h => by omega)).trans hc1) (And.intro hc2 (And.intro ((hs2.oth g 3 hg1 hgF1 (fun h => by omega)).trans h3) (And.intro ((hs1.mono (P' := cellsAt g 0 4) (fun k j _ h => ⟨h.1, by omega, by omega⟩)).trans hs2 (fun k j _ h => ⟨h.1, by omega, by omega⟩)) hL2))))
 clear hc1 h2 h3 hs1 hL1 hg1 hgF1 hL2 hC2 hc2 hs2 H1 HI2
 go_wp2_with fail
 refine (uh HI3).mono ?_
 rintro e w3 ⟨rfl, F3, hC3, hc3, hs3⟩
 obtain ⟨d0, d1, d3, hs02, hL2⟩ := uh H2
 have hg2 := (hL2 0).lt
 have hgF2 := (hL2 0).nF
 have hL3 := fun i => (hL2 i).stp hs3
 have t3 : w3.cell? ⟨g, 3, none⟩ = some (.bool v.re) := (hs3.oth g 3 hg2 hgF2 (fun h => by omega)).trans d3
 have H3 := hid (And.intro hC3 (And.intro ((hs3.oth g 0 hg2 hgF2 (fun h => by omega)).trans d0) (And.intro ((hs3.oth g 1 hg2 hgF2 (fun h => by omega)).trans d1) (And.intro hc3 (And.intro t3 (And.intro (hs02.trans hs3 (fun k j _ h => ⟨h.1, by omega, by omega⟩)) hL3))))))
 have hg3 := (hL3 0).lt
 clear d0 d1 d3 hs02 hL2 hg2 hgF2 hL3 hC3 hc3 hs3 H2 HI3
 have HF : Hid (∀ (n : Nat) (w4 : World), n = v.gone → w4 = w3.alloc (.cells #[.int .u8 (n : Nat)] 5) → Calls Tryz.prog 128 #[.int .u8 0, .int .u8 1, errV E 4] w4 fun e w5 => ∃ Fc caps, e = .returned (.func (.func Fc) #[] caps) ∧ Calls Tryz.prog 127 #[.pointer (some ⟨cb, 0, none⟩), .string n_gone, .pointer (some ⟨w3.heap.size, 0, none⟩), .slice (some ⟨w5.heap.size, 0, none⟩) 1 1] (w5.alloc (.cells #[.func (.func Fc) #[] caps] 241)) fun e w' => e = .returned (.tuple #[]) ∧ ∃ F', w'.cell? ⟨w3.heap.size, 0, none⟩ = some (.int .u8 ((c.s4 v).2 : Nat)) ∧ w'.cell? ⟨g, 3, none⟩ = some (.bool v.re) ∧ w'.frozen? ⟨g, 3, none⟩ = false ∧ ∀ V, V = w'.setCell ⟨g, 3, none⟩ (.bool ((((c.s4 v).2 : Nat) : Int) == 1)) → Cd V cb b F' (c.pSummary v).1 E ∧ SuC V g (c.pSummary v).2 ∧ Stp w V F F' (cellsAt g 0 4)) := by
  rintro n w4 hn rfl
  refine (within_u8 0 1 4 E _ (by decide)).mono ?_
  rintro e w5 ⟨fv, rfl, K0, hF, hf, hK⟩
  obtain ⟨hC3, d0, d1, d2, t3, hs03, hL3⟩ := uh H3
  have hbx := box1 w3 (.cells #[.int .u8 (n : Nat)] 5)
  have hC4 := hC3.fr0 hbx
  have hL4 := hC3.box #[.int .u8 (n : Nat)] 5 0
  have hn256 : n < 256 := by rw [hn]; unfold SuM.gone; split <;> decide
  have hnum := num1_u8 (nm := n_gone) 241 hC4 (by simp) hL4 hn256 hF hf hK (uh HR).2.2
  obtain ⟨Fc, caps, rfl, _⟩ := hF.ex
  refine ⟨Fc, caps, rfl, hnum.mono ?_⟩
  rintro e w6 ⟨rfl, F6, hC6, hc6, hs6⟩
  have hs36 : Stp w3 w6 F3 F6 (fun k j => k = w3.heap.size ∧ j = 0) := (Stp.of_fr hbx F3 _).trans hs6 (fun _ _ _ h => h)
  have hoth : ∀ i v', w3.cell? ⟨g, i, none⟩ = some v' → w6.cell? ⟨g, i, none⟩ = some v' := fun i v' hv' => (hs36.oth g i (hL3 0).lt (hL3 0).nF (fun h => by have := (hL3 0).lt; omega)).trans hv'
  have hL6 := fun i => (hL3 i).stp hs36
  subst hn
  refine ⟨rfl, F6, hc6, hoth 3 _ t3, (hL6 3).fz, ?_⟩
  rintro V rfl
  have hset : ∀ i, i ≠ 3 → ∀ v' : Value, (w6.setCell ⟨g, 3, none⟩ v').cell? ⟨g, i, none⟩ = w6.cell? ⟨g, i, none⟩ := fun i hi v' => World.cell?_setCell_other _ _ _ _ (by intro e; injection e with _ e2 _; exact hi e2.symm)
  refine ⟨hC6.fr ((Fr.refl (fun k => k = g) _).setCell (.inl rfl) _) (fun k hk e => (hL6 0).nF (e ▸ hk)) (fun e => (hL6 0).nc e.symm) (fun k e => by rw [e]; exact (hL6 0).lo), ⟨(hset 0 (by decide) _).trans (hoth 0 _ d0), (hset 1 (by decide) _).trans (hoth 1 _ d1), (hset 2 (by decide) _).trans (hoth 2 _ d2), World.cell?_setCell_same _ _ _ (hoth 3 _ t3)⟩, ?_⟩
  exact (hs03.trans hs36 (fun k j hk h => by have := hs03.size; omega)).trans (Stp.set g 3 _) (fun k j _ h => ⟨h.1, by omega, by omega⟩)
 have k4 := (uh H3).1.g7.k4
 have hk40 : (w3.alloc (.cells #[.int .u8 0] 5)).cell? ⟨4, 0, none⟩ = some (errV E 4) := kpC (box1 _ _) k4
 have hk41 : (w3.alloc (.cells #[.int .u8 1] 5)).cell? ⟨4, 0, none⟩ = some (errV E 4) := kpC (box1 _ _) k4
 have hlg3 := ltC t3
 have hl4 := ltC (uh H3).1.g7.k4
 clear k4 H3
 cases hre : v.re with
 | false =>
  rw [hre] at t3
  have HF0 := hid ((uh HF) 0 (w3.alloc (.cells #[.int .u8 0] 5)) (by simp [SuM.gone, hre]) rfl)
  clear HF hk41
  go_wp2_with fail
  refine (uh HF0).mono ?_
  rintro e w5 ⟨Fc, caps, rfl, hcall⟩
  have HC := hid hcall
  clear hcall HF0
  go_wp2_with fail
  refine (uh HC).mono ?_
  rintro e w6 ⟨rfl, F6, hc6, hc3, hz3, hfin⟩
  have HFIN := hid hfin
  clear hfin HC t3 hk40 hre
  go_wp2_with fail
  go_end0
  obtain ⟨z1, z2, z3⟩ := (uh HFIN) _ rfl
  exact ⟨rfl, F6, z1, z2, z3⟩
 | true =>
  rw [hre] at t3
  have HF0 := hid ((uh HF) 1 (w3.alloc (.cells #[.int .u8 1] 5)) (by simp [SuM.gone, hre]) rfl)
  clear HF hk40
  go_wp2_with fail
  refine (uh HF0).mono ?_
  rintro e w5 ⟨Fc, caps, rfl, hcall⟩
  have HC := hid hcall
  clear hcall HF0
  go_wp2_with fail
  refine (uh HC).mono ?_
  rintro e w6 ⟨rfl, F6, hc6, hc3, hz3, hfin⟩
  have HFIN := hid hfin
  clear hfin HC t3 hk41 hre
  go_wp2_with fail
  go_end0
  obtain ⟨z1, z2, z3⟩ := (uh HFIN) _ rfl
  exact ⟨rfl, F6, z1, z2, z3⟩
def SuM.vs (f : SuM) : List Value := [.int .u32 (f.au : Nat), .int .u32 (f.ev : Nat), .int .u32 (f.fi : Nat), .bool f.re]
def suc (l : List SuM) : List Value := l.flatMap SuM.vs
theorem suc_app (a b : List SuM) : suc (a ++ b) = suc a ++ suc b := by simp [suc]
theorem Tryz.infoSu7 : (Tryz.prog.info? 161).map (fun i => (i.zero, i.size, i.bytes)) = some (some (.agg #[.int .u32 0, .int .u32 0, .int .u32 0, .bool false]), 4, 16) := by kernel_rfl
structure OwZ (w : World) (base : Nat) (x : Value) (l : List SuM) (F : Nat → Prop) : Prop where
  nF : ∀ k, x.ownBlock = some k → ¬ F k
  row : w.ownsRow base 161 4 x l.length (suc l)
  ok : ∀ f ∈ l, f.ok
theorem OwZ.nil (w : World) (base : Nat) (F : Nat → Prop) : OwZ w base (.slice none 0 0) [] F := ⟨fun _ h => (by cases h), ⟨rfl, .inl ⟨rfl, rfl⟩⟩, fun _ h => (by cases h)⟩
theorem OwZ.stp {w w' : World} {base : Nat} {x : Value} {l : List SuM} {F F' : Nat → Prop} {P : Nat → Nat → Prop} (h : OwZ w base x l F) (hs : Stp w w' F F' P) (hP : ∀ k j, base ≤ k → k < w.heap.size → ¬ P k j) : OwZ w' base x l F' :=
  ⟨fun k hk => hs.nF (h.row.lt k hk).2 (h.nF k hk), ownsRow_of_block h.row (fun k hk => hs.block (h.row.lt k hk).2 (h.nF k hk) (fun j => hP k j (h.row.lt k hk).1 (h.row.lt k hk).2)), h.ok⟩
theorem OwZ.app {w : World} {base : Nat} {v : Value} {l : List SuM} {F : Nat → Prop} (h : OwZ w base v l F) (f : SuM) (hf : f.ok) (hb : base ≤ w.heap.size) (hF : ∀ k, F k → k < w.heap.size) (hl : l.length ≤ 1000000) :
    ∃ ao cap w', (Builtin.append_ #[31, 31] 31 #[v, .slice (some ⟨w.heap.size, 0, none⟩) 1 1]).run Tryz.prog (w.alloc (.cells #[.int .u32 (f.au : Nat), .int .u32 (f.ev : Nat), .int .u32 (f.fi : Nat), .bool f.re] 161)) = .ok (.slice ao (l.length + 1) cap) w' ∧ OwZ w' base (.slice ao (l.length + 1) cap) (l ++ [f]) F ∧ Fr (fun g => v.ownBlock = some g) w w' := by
  obtain ⟨i0, hi, hz0, hz1, hz2⟩ := info_parts Tryz.infoSu7
  have hb' := ownsRow_of_block (w' := w.alloc (.cells #[.int .u32 (f.au : Nat), .int .u32 (f.ev : Nat), .int .u32 (f.fi : Nat), .bool f.re] 161)) h.row (fun g hg => Below.heap_alloc _ _ _ (h.row.lt g hg).2)
  obtain ⟨v', w', hr, h2, h3, _, h5⟩ := run_append_own_at (P := Tryz.prog) (w := w.alloc (.cells #[.int .u32 (f.au : Nat), .int .u32 (f.ev : Nat), .int .u32 (f.fi : Nat), .bool f.re] 161)) base 31 31 161 i0 (.agg #[.int .u32 0, .int .u32 0, .int .u32 0, .bool false]) 4 16 Tryz.underlying31 hi hz0 hz1 hz2 rfl (by decide) v l.length (suc l) hb' ⟨w.heap.size, 0, none⟩ 1 1 f.vs rfl (fun j u hu => by
    rw [addr_add, World.cell?_alloc_at _ _ _ _ rfl]; simpa [SuM.vs] using hu) (fun u hu => by simp [SuM.vs] at hu; rcases hu with rfl | rfl | rfl | rfl <;> rfl) (by simp only [maxLen]; omega) (by omega) (by simp; omega)
  obtain ⟨ao, cap, rfl⟩ := own_formY h2
  refine ⟨ao, cap, w', hr, ⟨fun k hk => ?_, by rw [suc_app, List.length_append, List.length_singleton]; simpa [suc] using h2, fun x hx => ?_⟩, ((box1 w _).mono (fun _ _ h => h.elim)).grown h3 (fun g hg => .inl hg)⟩
  · rcases h5 with e | e
    · rw [e] at hk; exact h.nF k hk
    · rw [e] at hk
      cases hk
      exact fun hx => by have := hF _ hx; simp at this; omega
  · rcases List.mem_append.mp hx with hx | hx
    · exact h.ok x hx
    · rw [List.mem_singleton] at hx; rw [hx]; exact hf
structure SuV (w : World) (xo : Option Addr) (xc : Nat) (l : List SuM) (F : Nat → Prop) : Prop where
  cap : l.length ≤ xc
  el : ∀ (j : Nat) f, l[j]? = some f → f.ok ∧ ∃ g o, xo = some ⟨g, o, none⟩ ∧ ¬ F g ∧ w.cell? ⟨g, o + j * 4, none⟩ = some (.int .u32 (f.au : Nat)) ∧ w.cell? ⟨g, o + j * 4 + 1, none⟩ = some (.int .u32 (f.ev : Nat)) ∧ w.cell? ⟨g, o + j * 4 + 2, none⟩ = some (.int .u32 (f.fi : Nat)) ∧ w.cell? ⟨g, o + j * 4 + 3, none⟩ = some (.bool f.re)
theorem SuV.stp {w w' : World} {xo : Option Addr} {xc : Nat} {l : List SuM} {F F' : Nat → Prop} {P : Nat → Nat → Prop} (h : SuV w xo xc l F) (hs : Stp w w' F F' P) (hP : ∀ g o, xo = some ⟨g, o, none⟩ → ∀ i, g < w.heap.size → ¬ P g i) : SuV w' xo xc l F' := by
  refine ⟨h.cap, fun j f hf => ?_⟩
  obtain ⟨h0, g, o, h1, h2, h3, h4, h5, h6⟩ := h.el j f hf
  have hlt : g < w.heap.size := ltC h3
  have hp := fun i => hP g o h1 i hlt
  exact ⟨h0, g, o, h1, hs.nF hlt h2, (hs.oth g _ hlt h2 (hp _)).trans h3, (hs.oth g _ hlt h2 (hp _)).trans h4, (hs.oth g _ hlt h2 (hp _)).trans h5, (hs.oth g _ hlt h2 (hp _)).trans h6⟩
def zSu : SuM := ⟨0, 0, 0, false⟩
theorem zSu_ok : zSu.ok := ⟨by decide, by decide, by decide⟩
set_option maxHeartbeats 2000000 in
set_option maxRecDepth 100000 in
theorem list_Summary_w (s : Wq) (cb b g i : Nat) (F : Nat → Prop) (E : Nat → Addr) (xo : Option Addr) (xc : Nat) (l : List SuM) (w : World) (h : Cd w cb b F (.wr s) E) (hn : l.length < 9223372036854775808) (hp : w.cell? ⟨g, i, none⟩ = some (.slice xo l.length xc)) (hL : Loc w cb F g i) (hl : SuV w xo xc l F) (hroom : (CS.wr s).room 300) :
    Calls Tryz.prog 138 #[.pointer (some ⟨cb, 0, none⟩), .string n_history, .pointer (some ⟨g, i, none⟩), .int .i64 64, .func (.func 139) #[.pointer (some ⟨cb, 0, none⟩)] #[], .slice none 0 0] w fun e w' => e = .returned (.tuple #[]) ∧ ∃ F', Cd w' cb b F' (loopW (fun c v => c.pSummary v) ((CS.wr s).pInt n_history 64 (lrs 64 []) l.length).1 (l.take (min l.length 64))) E ∧ Stp w w' F F' (fun _ _ => False) := by
  have k2 := h.g7.k2
  have hl2 := ltC k2
  have hsf := st_func
  have hent : ∀ (x : Value) (W : World), (callFunc 139 (#[.pointer (some ⟨cb, 0, none⟩), x])).run Tryz.prog W = .ok (.enter 139 (#[.pointer (some ⟨cb, 0, none⟩), x])) W := fun _ W => enters Tryz.func139 rfl rfl _ W
  obtain ⟨n, hnl⟩ : ∃ n, n = l.length := ⟨_, rfl⟩
  rw [← hnl] at hn hp ⊢
  have HNL := hid hnl
  clear hnl
  have hhead := list_head (.wr s) n_history n 64 [] cb b F E (.slice none 0 0) w h (by omega) (by decide) ⟨_, Rus.nil _ w E, fun _ h => h.elim⟩ (by decide) (by simp only [CS.room] at *; omega) 3
  obtain ⟨c1, hc1⟩ : ∃ c1, c1 = ((CS.wr s).pInt n_history 64 (lrs 64 []) n).1 := ⟨_, rfl⟩
  have hn1 : ((CS.wr s).pInt n_history 64 (lrs 64 []) n).2 = n := rfl
  have hroom1 : c1.room 299 := by rw [hc1]; exact CS.pInt_room hroom _ _ _ _
  have hw1 : ∃ s, c1 = .wr s := ⟨_, hc1⟩
  rw [← hc1, hn1] at hhead
  rw [← hc1]
  clear hc1 hn1
  have HG := hid hhead
  clear hhead
  obtain ⟨N, hN⟩ : ∃ N, N = min n 64 := ⟨_, rfl⟩
  rw [← hN]
  have hNn : N ≤ n := by omega
  have hNm : N ≤ 64 := by omega
  have HM := hid hN
  clear hN
  have HW := hid (within_int 0 64 2 E (w.alloc (.cells #[.int .i64 n] 3)) (by decide))
  have H := hid (And.intro h (And.intro hL (And.intro hl (And.intro hroom1 hw1))))
  have hlp := hL.lt
  clear h hL hl hroom hroom1 hw1
  go_enter Tryz.func138, Tryz.ntmps138
  go_wp2_with fail
  refine (uh HW).mono ?_
  rintro e w1 ⟨fv, rfl, K0, hF, hf1, hK0⟩
  obtain ⟨ao, cp, w2, hr, hcall⟩ := (uh HG) w1 fv K0 hF hf1 hK0 none 0 rfl
  obtain ⟨Fc, caps, rfl, _⟩ := hF.ex
  have HR := hid hr
  have HC := hid hcall
  clear hF hf1 hK0 hr hcall
  go_wp2_with (at_builtin; refine wpList_app rfl _ _ 278 278 rfl _ _ _ rfl rfl (uh HR) ?_)
  refine (uh HC).mono ?_
  rintro e w3 ⟨rfl, F3, hC3, hn3, hlt3, hnF3, hs3⟩
  have H3 := hid (And.intro hC3 hs3)
  clear hC3 hs3 hlt3 hnF3
  by_cases hnm : n ≤ 64
  all_goals
    go_wp2_with fail
    go_loopw [32] (fun iv wr => ∃ (k : Nat) (Fk : Nat → Prop), k ≤ N ∧ iv = .int .i64 (k : Nat) ∧ Cd wr cb b Fk (loopW (fun c v => c.pSummary v) c1 (l.take k)) E ∧ (∃ s', loopW (fun c v => c.pSummary v) c1 (l.take k) = .wr s') ∧ (loopW (fun c v => c.pSummary v) c1 (l.take k)).room (299 - 4 * k) ∧ Stp w wr F Fk (fun _ _ => False)) (fun iv _ => N - (intOf iv).toNat)
    case atStart => exact ⟨0, F3, Nat.zero_le _, rfl, (uh H3).1, (uh H).2.2.2.2, (uh H).2.2.2.1, (uh H3).2⟩
    case round =>
      obtain ⟨k, Fk, hk, rfl, hCk, ⟨sk, hsk⟩, hrk, hsk2⟩ := hrel
      by_cases hlt : k < N
      · have hlt' : (k : Int) < (n : Int) := by omega
        have hltm : (k : Int) < 64 := by have := uh HM; omega
        obtain ⟨f, hfk⟩ : ∃ f, l[k]? = some f := ⟨l[k]'(by have := uh HNL; omega), List.getElem?_eq_getElem (by have := uh HNL; omega)⟩
        have hlk := (uh H).2.2.1.stp hsk2 (fun _ _ _ _ _ h => h)
        obtain ⟨hfok, eg, eo, rfl, hegF, e0, e1, e2, e3⟩ := hlk.el k f hfk
        have hpr : wr.cell? ⟨g, i, none⟩ = some (.slice (some ⟨eg, eo, none⟩) n xc) := (hsk2.oth g i hlp (uh H).2.1.nF (fun h => h)).trans hp
        obtain ⟨st, hst⟩ : ∃ st, st = loopW (fun c v => c.pSummary v) c1 (l.take k) := ⟨_, rfl⟩
        rw [← hst] at hCk hsk hrk
        rw [hsk] at hCk hrk
        have h0r : wr.cell? ⟨cb, 0, none⟩ = some (.pointer (some ⟨b, 0, none⟩)) := hCk.c0
        have h1r : wr.cell? ⟨cb, 1, none⟩ = some (.pointer none) := hCk.c1
        have hlg := ltC hpr
        have hlcr := ltC h0r
        have hler := ltC e0
        have hcapk : k ≤ xc := by have := (uh H).2.2.1.cap; have := uh HNL; omega
        have hbx := box1 wr (.cells #[.int .u32 (f.au : Nat), .int .u32 (f.ev : Nat), .int .u32 (f.fi : Nat), .bool f.re] 161)
        have hblk := heap_alloc_new wr (.cells #[.int .u32 (f.au : Nat), .int .u32 (f.ev : Nat), .int .u32 (f.fi : Nat), .bool f.re] 161)
        have HCL := hid (summary_any (.wr sk) f cb b wr.heap.size Fk E _ (hCk.fr0 hbx) ⟨cOB (o := 0) hblk rfl, cOB (o := 1) hblk rfl, cOB (o := 2) hblk rfl, cOB (o := 3) hblk rfl⟩ (fun i => hCk.box _ _ i) hfok (CS.room_le hrk (by omega)))
        have HK := hid (And.intro hrk (And.intro hsk2 (And.intro hfk (And.intro hsk (And.intro hst hbx)))))
        clear hCk hrk hsk2 hfk hsk hst hlk hfok hblk hbx hegF
        go_wp2_with fail
        refine (uh HCL).mono ?_
        rintro e w4 ⟨rfl, F4, hC4, _, hs4⟩
        obtain ⟨hrk, hsk2, hfk, hsk, hst, hbx⟩ := uh HK
        have hs5 : Stp wr w4 Fk F4 (fun k _ => k = wr.heap.size) := (Stp.of_fr hbx Fk _).trans hs4 (fun k j _ h => h.1)
        have es := loopW_succ (fun c v => c.pSummary v) c1 l k f hfk
        rw [← hst, hsk] at es
        have HFIN : Hid (Cd w4 cb b F4 (loopW (fun c v => c.pSummary v) c1 (l.take (k + 1))) E ∧ (∃ s', loopW (fun c v => c.pSummary v) c1 (l.take (k + 1)) = .wr s') ∧ (loopW (fun c v => c.pSummary v) c1 (l.take (k + 1))).room (299 - 4 * (k + 1)) ∧ Stp w w4 F F4 (fun _ _ => False)) := by
          rw [es]
          exact ⟨hC4, ⟨_, rfl⟩, CS.pSummary_room (CS.room_le hrk (by omega)) _, hsk2.trans hs5 (fun k j hk h => by have := hsk2.size; omega)⟩
        have h1w : w4.cell? ⟨cb, 1, none⟩ = some (.pointer none) := hC4.c1
        have hlc4 := ltC h1w
        clear hC4 hs4 hs5 hrk hsk2 hfk hsk hst hbx es HK HCL e0 e1 e2 e3 hpr h0r h1r
        go_wp2_with fail
        exact ⟨⟨k + 1, F4, by omega, by go_num, (uh HFIN).1, (uh HFIN).2.1, (uh HFIN).2.2.1, (uh HFIN).2.2.2⟩, by simp [intOf]; omega⟩
      · have hkN : k = N := by omega
        have HK := hid (And.intro hCk hsk2)
        clear hCk hsk hrk hsk2
        first
          | (have hlt' : ¬ (k : Int) < (n : Int) := by have := uh HM; omega
             go_wp2_with fail)
          | (have hlt' : ¬ (k : Int) < 64 := by have := uh HM; omega
             go_wp2_with fail)
        go_end0
        rw [hkN] at HK
        exact ⟨rfl, Fk, (uh HK).1, (uh HK).2⟩
set_option maxHeartbeats 4000000 in
set_option maxRecDepth 100000 in
theorem list_Summary_r (q : Q) (cb b g i : Nat) (F : Nat → Prop) (E : Nat → Addr) (w : World) (h : Cd w cb b F (.rd q) E) (hp : w.cell? ⟨g, i, none⟩ = some (.slice none 0 0)) (hL : Loc w cb F g i) :
    Calls Tryz.prog 138 #[.pointer (some ⟨cb, 0, none⟩), .string n_history, .pointer (some ⟨g, i, none⟩), .int .i64 64, .func (.func 139) #[.pointer (some ⟨cb, 0, none⟩)] #[], .slice none 0 0] w fun e w' => e = .returned (.tuple #[]) ∧ ∃ F', Cd w' cb b F' (loopR (fun c v => c.pSummary v) zSu (min ((q.named n_history).go 7 64).2.1 64) ((CS.rd q).pInt n_history 64 (lrs 64 []) 0).1).1 E ∧ ∃ x, w'.cell? ⟨g, i, none⟩ = some x ∧ OwZ w' w.heap.size x (loopR (fun c v => c.pSummary v) zSu (min ((q.named n_history).go 7 64).2.1 64) ((CS.rd q).pInt n_history 64 (lrs 64 []) 0).1).2 F' ∧ Stp w w' F F' (fun k j => k = g ∧ j = i) := by
  have k2 := h.g7.k2
  have hl2 := ltC k2
  have hsf := st_func
  have hent : ∀ (x : Value) (W : World), (callFunc 139 (#[.pointer (some ⟨cb, 0, none⟩), x])).run Tryz.prog W = .ok (.enter 139 (#[.pointer (some ⟨cb, 0, none⟩), x])) W := fun _ W => enters Tryz.func139 rfl rfl _ W
  have hhead := list_head (.rd q) n_history 0 64 [] cb b F E (.slice none 0 0) w h (by omega) (by decide) ⟨_, Rus.nil _ w E, fun _ h => h.elim⟩ (by decide) (by simp only [CS.room, CS.len]; omega) 3
  obtain ⟨c1, hc1⟩ : ∃ c1, c1 = ((CS.rd q).pInt n_history 64 (lrs 64 []) 0).1 := ⟨_, rfl⟩
  obtain ⟨n, hn⟩ : ∃ n, n = ((q.named n_history).go 7 64).2.1 := ⟨_, rfl⟩
  have hn1 : ((CS.rd q).pInt n_history 64 (lrs 64 []) 0).2 = (n : Int) := by rw [hn]; rfl
  have hq1 : ∃ q', c1 = .rd q' := ⟨_, hc1⟩
  have hnlt : n < 4294967296 := by rw [hn]; exact (q.named n_history).go_lt 7 64
  rw [← hc1, hn1] at hhead
  rw [← hc1, ← hn]
  clear hc1 hn1 hn
  have HG := hid hhead
  clear hhead
  obtain ⟨N, hN⟩ : ∃ N, N = min n 64 := ⟨_, rfl⟩
  rw [← hN]
  have hNm : N ≤ 64 := by omega
  have HM := hid hN
  clear hN
  have HW := hid (within_int 0 64 2 E (w.alloc (.cells #[.int .i64 0] 3)) (by decide))
  have H := hid (And.intro h (And.intro hL hq1))
  have hlp := hL.lt
  clear h hL hq1
  go_enter Tryz.func138, Tryz.ntmps138
  go_wp2_with fail
  refine (uh HW).mono ?_
  rintro e w1 ⟨fv, rfl, K0, hF, hf1, hK0⟩
  obtain ⟨ao, cp, w2, hr, hcall⟩ := (uh HG) w1 fv K0 hF hf1 hK0 none 0 rfl
  obtain ⟨Fc, caps, rfl, _⟩ := hF.ex
  have HR := hid hr
  have HC := hid hcall
  clear hF hf1 hK0 hr hcall
  go_wp2_with (at_builtin; refine wpList_app rfl _ _ 278 278 rfl _ _ _ rfl rfl (uh HR) ?_)
  refine (uh HC).mono ?_
  rintro e w3 ⟨rfl, F3, hC3, hn3, hlt3, hnF3, hs3⟩
  have H3 := hid (And.intro hC3 hs3)
  clear hC3 hs3 hlt3 hnF3
  by_cases hnm : n ≤ 64
  all_goals
    go_wp2_with fail
    go_loopw [32] (fun iv wr => ∃ (k : Nat) (Fk : Nat → Prop) (x : Value), k ≤ N ∧ iv = .int .i64 (k : Nat) ∧ Cd wr cb b Fk (loopR (fun c v => c.pSummary v) zSu k c1).1 E ∧ (∃ q', (loopR (fun c v => c.pSummary v) zSu k c1).1 = .rd q') ∧ wr.cell? ⟨g, i, none⟩ = some x ∧ OwZ wr w.heap.size x (loopR (fun c v => c.pSummary v) zSu k c1).2 Fk ∧ Stp w wr F Fk (fun k j => k = g ∧ j = i)) (fun iv _ => N - (intOf iv).toNat)
    case atStart =>
      obtain ⟨hC3, hs3⟩ := uh H3
      exact ⟨0, F3, .slice none 0 0, Nat.zero_le _, rfl, hC3, (uh H).2.2, (hs3.oth g i hlp (uh H).2.1.nF (fun h => h)).trans hp, OwZ.nil _ _ _, hs3.mono (fun _ _ _ h => h.elim)⟩
    case round =>
      obtain ⟨k, Fk, x, hk, rfl, hCk, ⟨qk, hqk⟩, hxk, hOk, hsk2⟩ := hrel
      by_cases hlt : k < N
      · have hlt' : (k : Int) < (n : Int) := by have := uh HM; omega
        have hltm : (k : Int) < 64 := by have := uh HM; omega
        obtain ⟨st, hst⟩ : ∃ st, st = (loopR (fun c v => c.pSummary v) zSu k c1).1 := ⟨_, rfl⟩
        obtain ⟨lk, hlk⟩ : ∃ lk, lk = (loopR (fun c v => c.pSummary v) zSu k c1).2 := ⟨_, rfl⟩
        have hlkl : lk.length = k := by rw [hlk]; exact loopR_len _ _ _ _
        rw [← hst] at hCk hqk
        rw [← hlk] at hOk
        rw [hqk] at hCk
        have h0r : wr.cell? ⟨cb, 0, none⟩ = some (.pointer none) := hCk.c0
        have h1r : wr.cell? ⟨cb, 1, none⟩ = some (.pointer (some ⟨b, 0, none⟩)) := hCk.c1
        have hlg := ltC hxk
        have hlcr := ltC h0r
        have hLk := (uh H).2.1.stp hsk2
        have hbx := box1 wr (.cells #[.int .u32 0, .int .u32 0, .int .u32 0, .bool false] 161)
        have hblk := heap_alloc_new wr (.cells #[.int .u32 0, .int .u32 0, .int .u32 0, .bool false] 161)
        have HCL := hid (summary_any (.rd qk) zSu cb b wr.heap.size Fk E _ (hCk.fr0 hbx) ⟨cOB (o := 0) hblk rfl, cOB (o := 1) hblk rfl, cOB (o := 2) hblk rfl, cOB (o := 3) hblk rfl⟩ (fun i => hCk.box _ _ i) zSu_ok (by simp only [CS.room, CS.len]; omega))
        have HK := hid (And.intro hsk2 (And.intro hqk (And.intro hst (And.intro hlk (And.intro hbx (And.intro hOk hLk))))))
        have HLK := hid hlkl
        clear hCk hsk2 hqk hst hlk hblk hbx hOk hLk hlkl
        go_wp2_with fail
        refine (uh HCL).mono ?_
        have hlkl := uh HLK
        rintro e w4 ⟨rfl, F4, hC4, hp4v, hs4⟩
        have hok4 := CS.pSummary_ok (.rd qk) zSu zSu_ok
        obtain ⟨hsk2, hqk, hst, hlk, hbx, hOk, hLk⟩ := uh HK
        obtain ⟨f, hfv⟩ : ∃ f, f = ((CS.rd qk).pSummary zSu).2 := ⟨_, rfl⟩
        rw [← hfv] at hp4v hok4
        obtain ⟨v0, v1, v2, v3⟩ := hp4v
        have hs5 : Stp wr w4 Fk F4 (fun k j => k = wr.heap.size ∧ 0 ≤ j) := (Stp.of_fr hbx Fk _).trans hs4 (fun k j _ h => ⟨h.1, by omega⟩)
        have hszw := hsk2.size
        have hszr := hs5.size
        have hO4 : OwZ w4.drew w.heap.size x lk F4 := by
          have h1 := hOk.stp hs5 (fun k j hb hk h => by omega)
          exact ⟨h1.nF, ownsRow_of_block h1.row (fun _ _ => rfl), h1.ok⟩
        obtain ⟨xo, xc, rfl⟩ := own_formY hOk.row
        obtain ⟨ao', cap', w6, hr6, hO6, hf6⟩ := hO4.app f hok4 (by show w.heap.size ≤ w4.heap.size; omega) (fun k hk => hC4.lt k hk) (by omega)
        have h0w : w4.cell? ⟨cb, 1, none⟩ = some (.pointer (some ⟨b, 0, none⟩)) := hC4.c1
        have hp4 : w4.cell? ⟨g, i, none⟩ = some (.slice xo lk.length xc) := (hs5.oth g i hlg hLk.nF (fun h => by omega)).trans hxk
        have fz4 : w4.frozen? ⟨g, i, none⟩ = false := (hs5.fz g i hlg hLk.nF).trans hLk.fz
        have hlg4 := ltC hp4
        have hxlo : ∀ k, (Value.slice xo lk.length xc).ownBlock = some k → w.heap.size ≤ k := fun k hk => (hOk.row.lt k hk).1
        have hp6 : w6.cell? ⟨g, i, none⟩ = some (.slice xo lk.length xc) := (hf6.cell (p := ⟨g, i, none⟩) hlg4 (fun h => by have := hxlo g h; omega)).trans hp4
        have fz6 : w6.frozen? ⟨g, i, none⟩ = false := (hf6.frozen (p := ⟨g, i, none⟩) hlg4 (fun h => by have := hxlo g h; omega)).trans fz4
        have hf46 : Fr (fun k => (Value.slice xo lk.length xc).ownBlock = some k) w4 w6 := ⟨hf6.os, hf6.tape, hf6.output, hf6.size, hf6.block⟩
        have hgF4 : ¬ F4 g := hs5.nF hlg hLk.nF
        have hsW : Stp w (w6.setCell ⟨g, i, none⟩ (.slice ao' (lk.length + 1) cap')) F F4 (fun k j => k = g ∧ j = i) := ((hsk2.trans hs5 (fun k j hk h => by omega)).grow hf46 hxlo).trans (Stp.set g i _) (fun _ _ _ h => h)
        have hcbw := ltC (uh H).1.c0
        have hglo := (uh H).2.1.lo
        have hgnc := (uh H).2.1.nc
        have hC7 : Cd (w6.setCell ⟨g, i, none⟩ (.slice ao' (lk.length + 1) cap')) cb b F4 ((CS.rd qk).pSummary zSu).1 E :=
          (hC4.fr hf46 (fun kk hk hS => hO4.nF kk hS hk) (fun hS => by have := hxlo cb hS; simp only at hcbw; omega) (fun kk hS => by have := hxlo kk hS; omega)).fr ((Fr.refl (fun kk => kk = g) _).setCell (.inl rfl) _) (fun kk hk e => hgF4 (e ▸ hk)) (fun e => hgnc e.symm) (fun kk e => by rw [e]; exact hglo)
        have hO7 : OwZ (w6.setCell ⟨g, i, none⟩ (.slice ao' (lk.length + 1) cap')) w.heap.size (.slice ao' (lk.length + 1) cap') (lk ++ [f]) F4 := hO6.stp (Stp.set g i _) (fun kk j hb _ h => by omega)
        have hc7 : (w6.setCell ⟨g, i, none⟩ (.slice ao' (lk.length + 1) cap')).cell? ⟨g, i, none⟩ = some (.slice ao' (lk.length + 1) cap') := World.cell?_setCell_same _ _ _ hp6
        have e1 : (loopR (fun c v => c.pSummary v) zSu (k + 1) c1).1 = ((CS.rd qk).pSummary zSu).1 := by
          show ((loopR (fun c v => c.pSummary v) zSu k c1).1.pSummary zSu).1 = _
          rw [← hst, hqk]
        have e3 : (loopR (fun c v => c.pSummary v) zSu (k + 1) c1).2 = lk ++ [f] := by
          show (loopR (fun c v => c.pSummary v) zSu k c1).2 ++ [((loopR (fun c v => c.pSummary v) zSu k c1).1.pSummary zSu).2] = _
          rw [← hst, ← hlk, hqk, hfv]
        have HFIN : Hid (∀ V, V = w6.setCell ⟨g, i, none⟩ (.slice ao' (lk.length + 1) cap') → Cd V cb b F4 (loopR (fun c v => c.pSummary v) zSu (k + 1) c1).1 E ∧ (∃ q', (loopR (fun c v => c.pSummary v) zSu (k + 1) c1).1 = .rd q') ∧ V.cell? ⟨g, i, none⟩ = some (.slice ao' (lk.length + 1) cap') ∧ OwZ V w.heap.size (.slice ao' (lk.length + 1) cap') (loopR (fun c v => c.pSummary v) zSu (k + 1) c1).2 F4 ∧ Stp w V F F4 (fun k j => k = g ∧ j = i)) := by
          rintro V rfl
          rw [e1, e3]
          exact ⟨hC7, ⟨_, rfl⟩, hc7, hO7, hsW⟩
        have HR6 := hid hr6
        have hlv4 := ltC v0
        clear hsW hC7 hO7 hc7 e1 e3 hgF4 hxlo hr6 hO6 hf6 hf46 hC4 hs5 hs4 hO4 hOk hst hlk hbx hsk2 hqk hLk hok4 hfv HK HCL hszw hszr hcbw hglo hgnc hxk h0r h1r hlkl
        go_wp2_with fail
        go_region_law (refine step_app rfl (.tmp 56) (.tmp 58) 31 31 rfl _ _ _ (by simp [Act.eval]) (by simp [Act.eval]) (uh HR6) ?_)
        all_goals
          go_wp2_with fail
          obtain ⟨z1, z2, z4, z5, z6⟩ := (uh HFIN) _ rfl
          exact ⟨⟨k + 1, F4, _, by omega, by go_num, z1, z2, z4, z5, z6⟩, by simp [intOf]; omega⟩
      · have hkN : k = N := by omega
        have HK := hid (And.intro hCk (And.intro hsk2 (And.intro hOk hxk)))
        clear hCk hqk hsk2 hOk
        first
          | (have hlt' : ¬ (k : Int) < (n : Int) := by have := uh HM; omega
             go_wp2_with fail)
          | (have hlt' : ¬ (k : Int) < 64 := by have := uh HM; omega
             go_wp2_with fail)
        go_end0
        rw [hkN] at HK
        exact ⟨rfl, Fk, (uh HK).1, x, (uh HK).2.2.2, (uh HK).2.2.1, (uh HK).2.1⟩
def CS.pHist (c : CS) (l : List SuM) : CS × List SuM := match c with
 | .wr s => (loopW (fun c v => c.pSummary v) ((CS.wr s).pInt n_history 64 (lrs 64 []) l.length).1 (l.take (min l.length 64)), l)
 | .rd q => loopR (fun c v => c.pSummary v) zSu (min ((q.named n_history).go 7 64).2.1 64) ((CS.rd q).pInt n_history 64 (lrs 64 []) 0).1
structure SuX (w : World) (c : CS) (x : Value) (l : List SuM) (F : Nat → Prop) (g : Nat) : Prop where
 wr : ∀ s, c = .wr s → ∃ xo xc, x = .slice xo l.length xc ∧ SuV w xo xc l F ∧ ∀ g' o, xo = some ⟨g', o, none⟩ → l ≠ [] → g' ≠ g
 rd : ∀ q, c = .rd q → x = .slice none 0 0 ∧ l = []
 n : l.length < 9223372036854775808
theorem SuX.stp {w w' : World} {c c' : CS} {x : Value} {l : List SuM} {F F' : Nat → Prop} {P : Nat → Nat → Prop} {g : Nat} (h : SuX w c x l F g) (hs : Stp w w' F F' P) (hP : ∀ k i, k < w.heap.size → P k i → k = g) (hm : c.sm c') : SuX w' c' x l F' g := by
 refine ⟨fun s hs' => ?_, fun q hq => ?_, h.n⟩
 ·obtain ⟨s', e⟩ := hm.1 s hs'
  obtain ⟨xo, xc, e1, e2, e3⟩ := h.wr s' e
  refine ⟨xo, xc, e1, ⟨e2.cap, fun j f hf => ?_⟩, e3⟩
  obtain ⟨h0, g', o, h1, h2, h3, h4, h5, h6⟩ := e2.el j f hf
  have hlt : g' < w.heap.size := ltC h3
  have hne : g' ≠ g := e3 g' o h1 (by rintro rfl; simp at hf)
  have hp : ∀ i, ¬ P g' i := fun i hp => hne (hP g' i hlt hp)
  exact ⟨h0, g', o, h1, hs.nF hlt h2, (hs.oth g' _ hlt h2 (hp _)).trans h3, (hs.oth g' _ hlt h2 (hp _)).trans h4, (hs.oth g' _ hlt h2 (hp _)).trans h5, (hs.oth g' _ hlt h2 (hp _)).trans h6⟩
 ·obtain ⟨q', e⟩ := hm.2 q hq
  exact h.rd q' e
structure SuO (w w' : World) (c : CS) (x x' : Value) (l' : List SuM) (F' : Nat → Prop) : Prop where
 wr : ∀ s, c = .wr s → x' = x
 rd : ∀ q, c = .rd q → OwZ w' w.heap.size x' l' F'
theorem SuO.of {w0 w w' : World} {c c' : CS} {x x' : Value} {l : List SuM} {F' : Nat → Prop} (h : SuO w w' c' x x' l F') (hm : c.sm c') (hs : w0.heap.size ≤ w.heap.size) : SuO w0 w' c x x' l F' := by
 refine ⟨fun s e => ?_, fun q e => ?_⟩
 ·cases hc : c' with
  | wr s' => exact h.wr s' hc
  | rd q' => obtain ⟨_, e'⟩ := hm.2 q' hc; rw [e] at e'; cases e'
 ·cases hc : c' with
  | wr s' => obtain ⟨_, e'⟩ := hm.1 s' hc; rw [e] at e'; cases e'
  | rd q' =>
   have h9 := h.rd q' hc
   exact ⟨h9.nF, ownsRow_base h9.row hs, h9.ok⟩
theorem hist_any (c : CS) (x : Value) (l : List SuM) (cb b g i : Nat) (F : Nat → Prop) (E : Nat → Addr) (w : World) (h : Cd w cb b F c E) (hp : w.cell? ⟨g, i, none⟩ = some x) (hX : SuX w c x l F g) (hL : Loc w cb F g i) (hroom : c.room 300) :
  Calls Tryz.prog 138 #[.pointer (some ⟨cb, 0, none⟩), .string n_history, .pointer (some ⟨g, i, none⟩), .int .i64 64, .func (.func 139) #[.pointer (some ⟨cb, 0, none⟩)] #[], .slice none 0 0] w fun e w' => e = .returned (.tuple #[]) ∧ ∃ F' x', Cd w' cb b F' (c.pHist l).1 E ∧ w'.cell? ⟨g, i, none⟩ = some x' ∧ SuO w w' c x x' (c.pHist l).2 F' ∧ Stp w w' F F' (fun k j => k = g ∧ j = i) := by
 cases c with
 | wr s =>
  obtain ⟨xo, xc, rfl, hV, _⟩ := hX.wr s rfl
  refine (list_Summary_w s cb b g i F E xo xc l w h hX.n hp hL hV hroom).mono ?_
  rintro e w' ⟨rfl, F', hC, hs⟩
  exact ⟨rfl, F', _, hC, (hs.oth g i hL.lt hL.nF (fun h => h)).trans hp, ⟨fun _ _ => rfl, fun q e => by cases e⟩, hs.mono (fun _ _ _ h => h.elim)⟩
 | rd q =>
  obtain ⟨rfl, rfl⟩ := hX.rd q rfl
  refine (list_Summary_r q cb b g i F E w h hp hL).mono ?_
  rintro e w' ⟨rfl, F', hC, x', hx', hO, hs⟩
  exact ⟨rfl, F', x', hC, hx', ⟨fun s e => (by cases e), fun _ _ => hO⟩, hs⟩
structure AnM where
 cl : Nat
 nu : Nat
 co : Nat
 re : Nat
 ve : Nat
 fs : List Fld
 hi : List SuM
structure AnM.ok (v : AnM) : Prop where
 cl : v.cl < 4294967296
 nu : v.nu < 4294967296
 co : v.co < 256
 re : v.re < 4294967296
 ve : v.ve < 4294967296
def CS.a1 (c : CS) (v : AnM) : CS × Nat × Nat := c.pId (v.cl, v.nu)
def CS.a2 (c : CS) (v : AnM) : CS × Nat := (c.a1 v).1.pCode v.co
def CS.a3 (c : CS) (v : AnM) : CS × Nat := (c.a2 v).1.pU32 n_record [] v.re
def CS.a4 (c : CS) (v : AnM) : CS × Nat := (c.a3 v).1.pU32 n_version [] v.ve
def CS.a5 (c : CS) (v : AnM) : CS × List Fld := (c.a4 v).1.pFields 2 [] v.fs
def CS.a6 (c : CS) (v : AnM) : CS × List SuM := (c.a5 v).1.pHist v.hi
def CS.pAnswer (c : CS) (v : AnM) : CS × AnM := ((c.a6 v).1, ⟨(c.a1 v).2.1, (c.a1 v).2.2, (c.a2 v).2, (c.a3 v).2, (c.a4 v).2, (c.a5 v).2, (c.a6 v).2⟩)
structure AnC (w : World) (g o : Nat) (v : AnM) (x y : Value) : Prop where
 c0 : w.cell? ⟨g, o, none⟩ = some (.int .u32 (v.cl : Nat))
 c1 : w.cell? ⟨g, o + 1, none⟩ = some (.int .u32 (v.nu : Nat))
 c2 : w.cell? ⟨g, o + 2, none⟩ = some (.int .u8 (v.co : Nat))
 c3 : w.cell? ⟨g, o + 3, none⟩ = some (.int .u32 (v.re : Nat))
 c4 : w.cell? ⟨g, o + 4, none⟩ = some (.int .u32 (v.ve : Nat))
 c5 : w.cell? ⟨g, o + 5, none⟩ = some x
 c6 : w.cell? ⟨g, o + 6, none⟩ = some y
set_option maxHeartbeats 2000000 in
set_option maxRecDepth 100000 in
theorem answer_any (c : CS) (v : AnM) (x y : Value) (cb b g o : Nat) (F : Nat → Prop) (E : Nat → Addr) (w : World) (h : Cd w cb b F c E) (hp : AnC w g o v x y) (hX : FdX w c x v.fs F g) (hY : SuX w c y v.hi F g) (hL : ∀ i, Loc w cb F g i) (hv : v.ok) (hroom : c.room 500) :
  Calls Tryz.prog 109 #[.pointer (some ⟨cb, 0, none⟩), .pointer (some ⟨g, o, none⟩)] w fun e w' => e = .returned (.tuple #[]) ∧ ∃ F' x' y', Cd w' cb b F' (c.pAnswer v).1 E ∧ AnC w' g o (c.pAnswer v).2 x' y' ∧ FdO w w' c x x' (c.pAnswer v).2.fs F' ∧ SuO w w' c y y' (c.pAnswer v).2.hi F' ∧ Stp w w' F F' (cellsAt g o 7) := by
 have hmf := mf
 have R1 : (c.a1 v).1.room 498 := CS.pId_room hroom _
 have R2 : (c.a2 v).1.room 497 := CS.pU8_room R1 _ _ _
 have R3 : (c.a3 v).1.room 496 := CS.pU32_room R2 _ _ _
 have R4 : (c.a4 v).1.room 495 := CS.pU32_room R3 _ _ _
 have R5 : (c.a5 v).1.room 366 := CS.pFields_room R4 _ _ _
 have M4 : c.sm (c.a4 v).1 := CS.sm_trans (CS.sm_trans (CS.sm_trans (c.pId_sm _) (CS.pU8_sm _ _ _ _)) (CS.pU32_sm _ _ _ _)) (CS.pU32_sm _ _ _ _)
 have M5 : c.sm (c.a5 v).1 := CS.sm_trans M4 (CS.pFields_sm _ _ _ _)
 have hgw := (hL 0).lt
 have hgF := (hL 0).nF
 have HR := hid (And.intro R1 (And.intro R2 (And.intro R3 (And.intro R4 (And.intro R5 (And.intro M4 M5))))))
 have HV := hid hv
 have HI := hid (id_any c (v.cl, v.nu) cb b g o F E w h hp.c0 hp.c1 hL hv.cl hv.nu (CS.room_le hroom (by decide)))
 have H := hid (And.intro hp (And.intro hX (And.intro hY hL)))
 clear h hp hX hY hL hv hroom R1 R2 R3 R4 R5 M4 M5
 go_enter Tryz.func109, Tryz.ntmps109
 go_wp2_with fail
 refine (uh HI).mono ?_
 rintro e w1 ⟨rfl, F1, hC1, i0, i1, hs1⟩
 obtain ⟨hp, hX, hY, hL⟩ := uh H
 have hL1 := fun i => (hL i).stp hs1
 have oth1 : ∀ i, 2 ≤ i → ∀ z, w.cell? ⟨g, o + i, none⟩ = some z → w1.cell? ⟨g, o + i, none⟩ = some z := fun i hi z hz => (hs1.oth g (o + i) hgw hgF (fun h => by have := h.2; omega)).trans hz
 have HD := hid (code_any (c.a1 v).1 v.co cb b g (o + 2) F1 E w1 hC1 (oth1 2 (by decide) _ hp.c2) (hL1 _) (uh HV).co (CS.room_le (uh HR).1 (by decide)))
 have H1 := hid (And.intro i0 (And.intro i1 (And.intro (oth1 3 (by decide) _ hp.c3) (And.intro (oth1 4 (by decide) _ hp.c4) (And.intro (oth1 5 (by decide) _ hp.c5) (And.intro (oth1 6 (by decide) _ hp.c6) (And.intro (hs1.mono (P' := cellsAt g o 7) (fun k j _ h => ⟨h.1, h.2.1, by have := h.2; omega⟩)) hL1)))))))
 clear hp hX hY hL hL1 oth1 hC1 i0 i1 hs1 HI
 go_wp2_with fail
 refine (uh HD).mono ?_
 rintro e w2 ⟨rfl, F2, hC2, hc2, hs2⟩
 obtain ⟨i0, i1, i3, i4, i5, i6, hs01, hL1⟩ := uh H1
 have oth2 : ∀ i, i ≠ 2 → ∀ z, w1.cell? ⟨g, o + i, none⟩ = some z → w2.cell? ⟨g, o + i, none⟩ = some z := fun i hi z hz => (hs2.oth g (o + i) (hL1 0).lt (hL1 0).nF (fun h => by omega)).trans hz
 have hL2 := fun i => (hL1 i).stp hs2
 have HN := hid (number_u32 (c.a2 v).1 n_record [] v.re cb b g (o + 3) F2 E (.slice none 0 0) w2 hC2 (oth2 3 (by decide) _ i3) (hL2 _) (uh HV).re (RuC.nil _ w2 F2 g E) (CS.room_le (uh HR).2.1 (by decide)))
 have H2 := hid (And.intro (oth2 0 (by decide) _ i0) (And.intro (oth2 1 (by decide) _ i1) (And.intro hc2 (And.intro (oth2 4 (by decide) _ i4) (And.intro (oth2 5 (by decide) _ i5) (And.intro (oth2 6 (by decide) _ i6) (And.intro (hs01.trans hs2 (fun k j _ h => ⟨h.1, by omega, by omega⟩)) hL2)))))))
 clear i0 i1 i3 i4 i5 i6 hs01 hL1 oth2 hL2 hC2 hc2 hs2 H1 HD
 go_wp2_with fail
 refine (uh HN).mono ?_
 rintro e w3 ⟨rfl, F3, hC3, hc3, hs3⟩
 obtain ⟨i0, i1, i2, i4, i5, i6, hs02, hL2⟩ := uh H2
 have oth3 : ∀ i, i ≠ 3 → ∀ z, w2.cell? ⟨g, o + i, none⟩ = some z → w3.cell? ⟨g, o + i, none⟩ = some z := fun i hi z hz => (hs3.oth g (o + i) (hL2 0).lt (hL2 0).nF (fun h => by omega)).trans hz
 have hL3 := fun i => (hL2 i).stp hs3
 have HN4 := hid (number_u32 (c.a3 v).1 n_version [] v.ve cb b g (o + 4) F3 E (.slice none 0 0) w3 hC3 (oth3 4 (by decide) _ i4) (hL3 _) (uh HV).ve (RuC.nil _ w3 F3 g E) (CS.room_le (uh HR).2.2.1 (by decide)))
 have H3 := hid (And.intro (oth3 0 (by decide) _ i0) (And.intro (oth3 1 (by decide) _ i1) (And.intro (oth3 2 (by decide) _ i2) (And.intro hc3 (And.intro (oth3 5 (by decide) _ i5) (And.intro (oth3 6 (by decide) _ i6) (And.intro (hs02.trans hs3 (fun k j _ h => ⟨h.1, by omega, by omega⟩)) hL3)))))))
 clear i0 i1 i2 i4 i5 i6 hs02 hL2 oth3 hL3 hC3 hc3 hs3 H2 HN
 go_wp2_with fail
 refine (uh HN4).mono ?_
 rintro e w4 ⟨rfl, F4, hC4, hc4, hs4⟩
 obtain ⟨i0, i1, i2, i3, i5, i6, hs03, hL3⟩ := uh H3
 have oth4 : ∀ i, i ≠ 4 → ∀ z, w3.cell? ⟨g, o + i, none⟩ = some z → w4.cell? ⟨g, o + i, none⟩ = some z := fun i hi z hz => (hs4.oth g (o + i) (hL3 0).lt (hL3 0).nF (fun h => by omega)).trans hz
 have hL4 := fun i => (hL3 i).stp hs4
 have hs04 := hs03.trans hs4 (fun k j _ h => ⟨h.1, by omega, by omega⟩)
 have hX4 : FdX w4 (c.a4 v).1 x v.fs F4 g := (uh H).2.1.stp hs04 (fun k i _ h => h.1) (uh HR).2.2.2.2.2.1.1 (uh HR).2.2.2.2.2.1.2
 have HFD := hid (fields_any (c.a4 v).1 2 [] none 0 x v.fs cb b g (o + 5) F4 E w4 hC4 (oth4 5 (by decide) _ i5) hX4 (hL4 _) ⟨_, Rus.nil _ w4 E, fun _ h => h.elim⟩ (by decide) (CS.room_le (uh HR).2.2.2.1 (by decide)))
 have H4 := hid (And.intro (oth4 0 (by decide) _ i0) (And.intro (oth4 1 (by decide) _ i1) (And.intro (oth4 2 (by decide) _ i2) (And.intro (oth4 3 (by decide) _ i3) (And.intro hc4 (And.intro (oth4 6 (by decide) _ i6) (And.intro hs04 hL4)))))))
 clear i0 i1 i2 i3 i5 i6 hs03 hL3 oth4 hL4 hs04 hX4 hC4 hc4 hs4 H3 HN4
 go_wp2_with fail
 refine (uh HFD).mono ?_
 rintro e w5 ⟨rfl, F5, x5, hC5, hc5, hO5, hs5⟩
 obtain ⟨i0, i1, i2, i3, i4, i6, hs04, hL4⟩ := uh H4
 have oth5 : ∀ i, i ≠ 5 → ∀ z, w4.cell? ⟨g, o + i, none⟩ = some z → w5.cell? ⟨g, o + i, none⟩ = some z := fun i hi z hz => (hs5.oth g (o + i) (hL4 0).lt (hL4 0).nF (fun h => by omega)).trans hz
 have hL5 := fun i => (hL4 i).stp hs5
 have hs05 := hs04.trans hs5 (fun k j _ h => ⟨h.1, by omega, by omega⟩)
 have hY5 : SuX w5 (c.a5 v).1 y v.hi F5 g := (uh H).2.2.1.stp hs05 (fun k i _ h => h.1) (uh HR).2.2.2.2.2.2
 have hO5' := hO5.of (uh HR).2.2.2.2.2.1 hs04.size
 have HHI := hid (hist_any (c.a5 v).1 y v.hi cb b g (o + 6) F5 E w5 hC5 (oth5 6 (by decide) _ i6) hY5 (hL5 _) (CS.room_le (uh HR).2.2.2.2.1 (by decide)))
 have H5 := hid (And.intro (oth5 0 (by decide) _ i0) (And.intro (oth5 1 (by decide) _ i1) (And.intro (oth5 2 (by decide) _ i2) (And.intro (oth5 3 (by decide) _ i3) (And.intro (oth5 4 (by decide) _ i4) (And.intro hc5 (And.intro hs05 (And.intro hL5 hO5'))))))))
 clear i0 i1 i2 i3 i4 i6 hs04 hL4 oth5 hL5 hs05 hY5 hO5' hC5 hc5 hO5 hs5 H4 HFD
 go_wp2_with fail
 refine (uh HHI).mono ?_
 rintro e w6 ⟨rfl, F6, y6, hC6, hc6, hO6, hs6⟩
 obtain ⟨i0, i1, i2, i3, i4, i5, hs05, hL5, hO5⟩ := uh H5
 have oth6 : ∀ i, i ≠ 6 → ∀ z, w5.cell? ⟨g, o + i, none⟩ = some z → w6.cell? ⟨g, o + i, none⟩ = some z := fun i hi z hz => (hs6.oth g (o + i) (hL5 0).lt (hL5 0).nF (fun h => by omega)).trans hz
 have HE : Hid (Cd w6 cb b F6 (c.pAnswer v).1 E ∧ AnC w6 g o (c.pAnswer v).2 x5 y6 ∧ FdO w w6 c x x5 (c.pAnswer v).2.fs F6 ∧ SuO w w6 c y y6 (c.pAnswer v).2.hi F6 ∧ Stp w w6 F F6 (cellsAt g o 7)) :=
  ⟨hC6, ⟨oth6 0 (by decide) _ i0, oth6 1 (by decide) _ i1, oth6 2 (by decide) _ i2, oth6 3 (by decide) _ i3, oth6 4 (by decide) _ i4, oth6 5 (by decide) _ i5, hc6⟩, hO5.stp hs6 hgw (fun k j _ h => h.1), hO6.of (uh HR).2.2.2.2.2.2 hs05.size, hs05.trans hs6 (fun k j _ h => ⟨h.1, by omega, by omega⟩)⟩
 clear i0 i1 i2 i3 i4 i5 hs05 hL5 hO5 oth6 hC6 hc6 hO6 hs6 H5 HHI
 go_wp2_with fail
 go_end0
 exact ⟨rfl, F6, x5, y6, (uh HE).1, (uh HE).2.1, (uh HE).2.2.1, (uh HE).2.2.2.1, (uh HE).2.2.2.2⟩
end Go.Proofs.YtdcopmkgmbiikaaGreatDoor
