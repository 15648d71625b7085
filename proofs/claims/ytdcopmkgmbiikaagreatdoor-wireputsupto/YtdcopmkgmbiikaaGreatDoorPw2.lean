import Derived.Test.YtdcopmkgmbiikaaGreatDoorPw1
import Derived.Deep.RegionLaw
import Derived.Test.YtdcopmkgmbiikaaGreatDoorKFai
import Derived.Test.YtdcopmkgmbiikaaGreatDoorKTld
import Derived.Test.YtdcopmkgmbiikaaGreatDoorKAwl
namespace Go.Proofs.YtdcopmkgmbiikaaGreatDoor
open Go.RowKit
def CS.pHash (c : CS) (nm : ByteArray) (v : List Nat) : CS × List Nat := c.pByt nm 32 [fun v => szN 1 32 v.length] v
set_option maxRecDepth 100000 in
theorem hash_any (c : CS) (nm : ByteArray) (x : Value) (v : List Nat) (cb b g i : Nat) (F : Nat → Prop) (E : Nat → Addr) (w : World) (h : Cd w cb b F c E) (hp : w.cell? ⟨g, i, none⟩ = some x) (hB : BV w x v F) (hL : Loc w cb F g i) (hv : v.length < 9223372036854775808) (hroom : c.room 1) :
  Calls Tryz.prog 140 #[.pointer (some ⟨cb, 0, none⟩), .string nm, .pointer (some ⟨g, i, none⟩)] w fun e w' => e = .returned (.tuple #[]) ∧ ∃ F' x', Cd w' cb b F' (c.pHash nm v).1 E ∧ w'.cell? ⟨g, i, none⟩ = some x' ∧ (((∃ s, c = .wr s) ∧ x' = x) ∨ w'.ownsRow w.heap.size 5 1 x' (c.pHash nm v).2.length (cellsOf (c.pHash nm v).2)) ∧ (∀ k o m c, x' = .slice (some ⟨k, o, none⟩) m c → ¬ F' k) ∧ Stp w w' F F' (fun k j => k = g ∧ j = i) := by
 have H := hid (run_byt c nm 1 32 [] x v cb b g i F E (.slice none 0 0) w h hp hB hL hv (by decide) (RuC.nil _ w F g E) (by decide) hroom)
 clear h hp hB hL
 go_enter Tryz.func140, Tryz.ntmps140
 go_wp2_with fail
 refine (uh H).mono ?_
 rintro e w' ⟨rfl, hr⟩
 have HR := hid hr
 clear hr
 go_wp2_with fail
 go_end0
 exact ⟨rfl, uh HR⟩
theorem CS.pHash_room {c : CS} {n : Nat} (h : c.room (n + 1)) (nm : ByteArray) (v : List Nat) : (c.pHash nm v).1.room n :=
 CS.pByt_room h nm 32 _ v (fun e => by have := szN_fit [] 1 32 (fun v : List Nat => v.length) v e; omega)
theorem Cd.box {w : World} {cb b : Nat} {F : Nat → Prop} {c : CS} {E : Nat → Addr} (h : Cd w cb b F c E) (vs : Array Value) (t : TypeId) (i : Nat) : Loc (w.alloc (.cells vs t)) cb F w.heap.size i := by
 have hl := ltC h.c0
 have hlo := h.cl
 simp only at hl
 exact ⟨by simp, by simp, fun hx => by have := h.lt _ hx; omega, by omega, by omega⟩
def lrs (m : Int) (rs : List (Int → Nat)) : List (Int → Nat) := wiI 0 m 2 :: rs
theorem list_head (c : CS) (nm : ByteArray) (n m : Int) (rs : List (Int → Nat)) (cb b : Nat) (F : Nat → Prop) (E : Nat → Addr) (rx : Value) (w : World) (h : Cd w cb b F c E) (hn : n < 9223372036854775808) (hm : m < 9223372036854775808) (hR : ∃ K, Rus enInt w K rx E rs ∧ ∀ k, K k → ¬ F k) (hrs : rs.length < 1000) (hroom : c.room 1) (T : TypeId) :
  ∀ (w1 : World) (fv : Value) (K0 : Nat → Prop), FnR enInt w1 K0 fv E (wiI 0 m 2) → Fr (fun _ => False) (w.alloc (.cells #[.int .i64 n] T)) w1 → Knew (w.alloc (.cells #[.int .i64 n] T)) K0 → ∀ xo xc, rx = .slice xo rs.length xc → ∃ ao cp w2, (Builtin.append_ #[278, 278] 278 #[.slice (some ⟨w1.heap.size, 0, none⟩) 1 1, .slice xo rs.length xc]).run Tryz.prog (w1.alloc (.cells #[fv] 255)) = .ok (.slice ao (rs.length + 1) cp) w2 ∧
   Calls Tryz.prog 159 #[.pointer (some ⟨cb, 0, none⟩), .string nm, .pointer (some ⟨w.heap.size, 0, none⟩), .int .i64 m, .slice ao (rs.length + 1) cp] w2 fun e w' => e = .returned (.tuple #[]) ∧ ∃ F', Cd w' cb b F' (c.pInt nm m (lrs m rs) n).1 E ∧ w'.cell? ⟨w.heap.size, 0, none⟩ = some (.int .i64 (c.pInt nm m (lrs m rs) n).2) ∧ w.heap.size < w'.heap.size ∧ ¬ F' w.heap.size ∧ Stp w w' F F' (fun _ _ => False) := by
 intro w1 fv K0 hF hf1 hK0 xo xc e
 subst e
 obtain ⟨K, hRu, hKa⟩ := hR
 have hb := box1 w (.cells #[.int .i64 n] T)
 have hsz : (w.alloc (.cells #[.int .i64 n] T)).heap.size = w.heap.size + 1 := by simp
 have hf01 := hb.trans hf1 (fun _ _ h => h)
 obtain ⟨ao, cp, w2, hr, hf2, hRu2⟩ := rus_cons_int w1 K0 K fv E _ rs xo xc hF (hRu.fr hf01 (fun _ _ h => h)) hrs
 have hf12 := hf1.trans hf2 (fun _ _ h => h)
 have hf := hf01.trans hf2 (fun _ _ h => h)
 have hng : 9 ≤ w.heap.size := by
  have := h.cl
  have h2 := ltC h.c0
  simp only at h2
  omega
 have hnF : ¬ F w.heap.size := fun hx => by have := h.lt _ hx; omega
 have hlt2 : w.heap.size < w2.heap.size := by have := hf12.size; omega
 have hlc := ltC h.c0
 have hL : Loc w2 cb F w.heap.size 0 := ⟨(hf12.frozen (p := ⟨w.heap.size, 0, none⟩) (by simp) (fun h => h)).trans (by simp), hlt2, hnF, by simp only at hlc; omega, hng⟩
 have hp : w2.cell? ⟨w.heap.size, 0, none⟩ = some (.int .i64 n) := (hf12.cell (p := ⟨w.heap.size, 0, none⟩) (by simp) (fun h => h)).trans (by simp)
 refine ⟨ao, cp, w2, hr, ?_⟩
 refine (part_int c nm (lrs m rs) n m cb b w.heap.size 0 F E _ w2 (h.fr0 hf) hp hL hn hm ⟨⟨_, hRu2, fun k hk => ?_⟩, by simp [lrs]; omega⟩ hroom).mono ?_
 ·rcases hk with hk | hk | hk
  ·rcases hK0 k hk with h1 | h1
   ·exact ⟨fun hx => by have := h.lt k hx; omega, by omega⟩
   ·exact ⟨fun hx => by have := h.lo k hx; omega, by omega⟩
  ·exact ⟨hKa k hk, by have := hRu.lt k hk; omega⟩
  ·have h1 := hf1.size
   exact ⟨fun hx => by have := h.lt k hx; omega, by omega⟩
 ·rintro e w' ⟨rfl, F', hC, hcell, hs⟩
  exact ⟨rfl, F', hC, hcell, Nat.lt_of_lt_of_le hlt2 hs.size, hs.nF hlt2 hnF, (Stp.of_fr hf F _).trans hs (fun k j hk h => by omega)⟩
def loopW {α : Type} (each : CS → α → CS × α) : CS → List α → CS
 | c, [] => c
 | c, x :: xs => loopW each (each c x).1 xs
theorem loopW_snoc {α : Type} (each : CS → α → CS × α) (xs : List α) : ∀ (c : CS) (x : α), loopW each c (xs ++ [x]) = (each (loopW each c xs) x).1 := by
 induction xs with
 | nil => intro c x; rfl
 | cons y ys ih => intro c x; exact ih _ x
theorem loopW_succ {α : Type} (each : CS → α → CS × α) (c : CS) (xs : List α) (k : Nat) (x : α) (h : xs[k]? = some x) : loopW each c (xs.take (k + 1)) = (each (loopW each c (xs.take k)) x).1 := by
 rw [List.take_add_one, h, Option.toList_some, loopW_snoc]
structure PcV (w : World) (xo : Option Addr) (xc : Nat) (ps : List (List Nat)) (F : Nat → Prop) : Prop where
 cap : ps.length ≤ xc
 el : ∀ (j : Nat) p, ps[j]? = some p → ∃ g o x, xo = some ⟨g, o, none⟩ ∧ ¬ F g ∧ w.cell? ⟨g, o + j, none⟩ = some x ∧ BV w x p F ∧ p.length < 9223372036854775808
theorem PcV.stp {w w' : World} {xo : Option Addr} {xc : Nat} {ps : List (List Nat)} {F F' : Nat → Prop} {P : Nat → Nat → Prop} (h : PcV w xo xc ps F) (hs : Stp w w' F F' P) (hP : ∀ k j, k < w.heap.size → ¬ P k j) : PcV w' xo xc ps F' := by
 refine ⟨h.cap, fun j p hp => ?_⟩
 obtain ⟨g, o, x, h1, h2, h3, h4, h5⟩ := h.el j p hp
 have hlt := ltC h3
 exact ⟨g, o, x, h1, hs.nF hlt h2, (hs.oth g (o + j) hlt h2 (hP g _ hlt)).trans h3, h4.stp hs (fun k o m c e i => hP k i (h4.at_ k o m c e).1), h5⟩
def loopR {α : Type} (each : CS → α → CS × α) (z : α) : Nat → CS → CS × List α
 | 0, c => (c, [])
 | n + 1, c => ((each (loopR each z n c).1 z).1, (loopR each z n c).2 ++ [(each (loopR each z n c).1 z).2])
theorem loopR_len {α : Type} (each : CS → α → CS × α) (z : α) (c : CS) (n : Nat) : (loopR each z n c).2.length = n := by
 induction n with
 | zero => rfl
 | succ n ih => simp [loopR, ih]
theorem ownsRow_base {w : World} {base base' e size n : Nat} {v : Value} {xs : List Value} (h : w.ownsRow base e size v n xs) (hb : base' ≤ base) : w.ownsRow base' e size v n xs := by
 refine ⟨h.1, ?_⟩
 rcases h.2 with h | ⟨g, c, cur, e1, e2, e3⟩
 ·exact .inl h
 ·exact .inr ⟨g, c, cur, e1, Nat.le_trans hb e2, e3⟩
structure OwP (w : World) (base : Nat) (x : Value) (ps : List (List Nat)) (F : Nat → Prop) : Prop where
 nF : ∀ k, x.ownBlock = some k → ¬ F k
 us : ∃ us : List Value, us.length = ps.length ∧ w.ownsRow base 23 1 x ps.length us ∧
  (∀ (j : Nat) u p, us[j]? = some u → ps[j]? = some p → w.ownsRow base 5 1 u p.length (cellsOf p)) ∧
  (∀ (j : Nat) u k, us[j]? = some u → u.ownBlock = some k → ¬ F k ∧ x.ownBlock ≠ some k) ∧
  (∀ (j j' : Nat) u u' k, j ≠ j' → us[j]? = some u → us[j']? = some u' → u.ownBlock = some k → u'.ownBlock ≠ some k)
theorem OwP.nil (w : World) (base : Nat) (F : Nat → Prop) : OwP w base (.slice none 0 0) [] F :=
 ⟨fun _ h => (by cases h), [], rfl, ⟨rfl, .inl ⟨rfl, rfl⟩⟩, fun j u p h => by simp at h, fun j u k h => by simp at h, fun j j' u u' k _ h => by simp at h⟩
theorem OwP.stp {w w' : World} {base : Nat} {x : Value} {ps : List (List Nat)} {F F' : Nat → Prop} {P : Nat → Nat → Prop} (h : OwP w base x ps F) (hs : Stp w w' F F' P) (hP : ∀ k j, base ≤ k → k < w.heap.size → ¬ P k j) : OwP w' base x ps F' := by
 obtain ⟨us, h1, h2, h3, h4, h5⟩ := h.us
 have hblk : ∀ k, base ≤ k → k < w.heap.size → ¬ F k → w'.heap[k]? = w.heap[k]? := fun k hb hk hF => hs.block hk hF (fun j => hP k j hb hk)
 refine ⟨fun k hk => hs.nF (h2.lt k hk).2 (h.nF k hk), us, h1, ownsRow_of_block h2 (fun k hk => hblk k (h2.lt k hk).1 (h2.lt k hk).2 (h.nF k hk)), fun j u p hu hp => ?_, fun j u k hu hk => ?_, h5⟩
 ·have ho := h3 j u p hu hp
  exact ownsRow_of_block ho (fun k hk => hblk k (ho.lt k hk).1 (ho.lt k hk).2 (h4 j u k hu hk).1)
 ·have hj : j < ps.length := by rw [← h1]; exact (List.getElem?_eq_some_iff.1 hu).1
  have ho := h3 j u _ hu (List.getElem?_eq_getElem hj)
  exact ⟨hs.nF (ho.lt k hk).2 (h4 j u k hu hk).1, (h4 j u k hu hk).2⟩
theorem OwP.fr0 {w w' : World} {base : Nat} {x : Value} {ps : List (List Nat)} {F : Nat → Prop} (h : OwP w base x ps F) (hf : Fr (fun _ => False) w w') : OwP w' base x ps F := h.stp (Stp.of_fr hf F (fun _ _ => False)) (fun _ _ _ _ h => h)
theorem OwP.base {w : World} {base base' : Nat} {x : Value} {ps : List (List Nat)} {F : Nat → Prop} (h : OwP w base x ps F) (hb : base' ≤ base) : OwP w base' x ps F := by
 obtain ⟨us, h1, h2, h3, h4, h5⟩ := h.us
 exact ⟨h.nF, us, h1, ownsRow_base h2 hb, fun j u p hu hp => own_mono (h3 j u p hu hp) hb, h4, h5⟩
theorem OwP.form {w : World} {base : Nat} {x : Value} {ps : List (List Nat)} {F : Nat → Prop} (h : OwP w base x ps F) : ∃ ao cap, x = .slice ao ps.length cap := by
 obtain ⟨us, _, h2, _⟩ := h.us
 have hl := h2.1
 rcases h2.2 with ⟨rfl, e⟩ | ⟨g, cap, cur, rfl, _⟩
 ·exact ⟨none, 0, by rw [e]⟩
 ·exact ⟨some ⟨g, 0, none⟩, cap, rfl⟩
theorem Tryz.infoSl : (Tryz.prog.info? 23).map (fun i => (i.zero, i.size, i.bytes)) = some (some (.slice none 0 0), 1, 24) := by kernel_rfl
theorem OwP.app {w : World} {base : Nat} {ao : Option Addr} {cap : Nat} {ps : List (List Nat)} {F : Nat → Prop} (h : OwP w base (.slice ao ps.length cap) ps F) (a : Option Addr) (c : Nat) (p : List Nat) (hb : base ≤ w.heap.size) (hp : w.ownsRow base 5 1 (.slice a p.length c) p.length (cellsOf p)) (hpF : ∀ k, (Value.slice a p.length c).ownBlock = some k → ¬ F k ∧ (Value.slice ao ps.length cap).ownBlock ≠ some k)
  (hne : ∀ us, w.ownsRow base 23 1 (.slice ao ps.length cap) ps.length us → ∀ (j : Nat) u k, us[j]? = some u → (Value.slice a p.length c).ownBlock = some k → u.ownBlock ≠ some k) (hF : ∀ k, F k → k < w.heap.size) (hl : ps.length < 100000) :
  ∃ ao' cap' w2, (Builtin.append_ #[38, 38] 38 #[.slice ao ps.length cap, .slice (some ⟨w.heap.size, 0, none⟩) 1 1]).run Tryz.prog (w.alloc (.cells #[.slice a p.length c] 23)) = .ok (.slice ao' (ps ++ [p]).length cap') w2 ∧ OwP w2 base (.slice ao' (ps ++ [p]).length cap') (ps ++ [p]) F ∧ Fr (fun k => (Value.slice ao ps.length cap).ownBlock = some k) w w2 := by
 obtain ⟨i0, hi, hz0, hz1, hz2⟩ := info_parts Tryz.infoSl
 obtain ⟨us, h1, h2, h3, h4, h5⟩ := h.us
 have hbx := box1 w (.cells #[.slice a p.length c] 23)
 have h2' := ownsRow_of_block (w' := w.alloc (.cells #[.slice a p.length c] 23)) h2 (fun g hg => Below.heap_alloc _ _ _ (h2.lt g hg).2)
 obtain ⟨v', w', hr, h6, h7, _, h8⟩ := run_append_own_at (P := Tryz.prog) (w := w.alloc (.cells #[.slice a p.length c] 23)) base 38 38 23 i0 (.slice none 0 0) 1 24 Tryz.underlying38 hi hz0 hz1 hz2 rfl (by decide) (.slice ao ps.length cap) ps.length us h2' ⟨w.heap.size, 0, none⟩ 1 1 [.slice a p.length c] rfl (fun j u hu => by
  rw [addr_add, World.cell?_alloc_at _ _ _ _ rfl]; simpa using hu) (fun u hu => by simp at hu; subst hu; rfl) (by simp only [maxLen]; omega) (by omega) (by simp; omega)
 have hform : ∃ ao' cap', v' = .slice ao' (ps ++ [p]).length cap' := by
  rcases h6.2 with ⟨_, e⟩ | ⟨g, cap', cur, rfl, _⟩
  ·omega
  ·exact ⟨some ⟨g, 0, none⟩, cap', by simp⟩
 obtain ⟨ao', cap', rfl⟩ := hform
 have hfr : Fr (fun k => (Value.slice ao ps.length cap).ownBlock = some k) w w' := (hbx.mono (fun _ _ h => h.elim)).grown h7 (fun k hk => .inl hk)
 have hown' : ∀ k, (Value.slice ao' (ps ++ [p]).length cap').ownBlock = some k → (Value.slice ao ps.length cap).ownBlock = some k ∨ w.heap.size ≤ k := fun k hk => by
  rcases h8 with e | e
  ·rw [e] at hk; exact .inl hk
  ·rw [e] at hk; cases hk; exact .inr (by simp)
 refine ⟨ao', cap', w', hr, ⟨fun k hk hx => ?_, us ++ [.slice a p.length c], by simp [h1], by simpa using h6, fun j u q hu hq => ?_, fun j u k hu hk => ?_, fun j j' u u' k hj hu hu' hk => ?_⟩, hfr⟩
 ·rcases hown' k hk with e | e
  ·exact h.nF k e hx
  ·have := hF k hx; omega
 ·by_cases hj : j < ps.length
  ·rw [List.getElem?_append_left (by omega)] at hu hq
   have ho := h3 j u q hu hq
   exact ownsRow_of_block ho (fun k hk => hfr.block k (ho.lt k hk).2 (h4 j u k hu hk).2)
  ·have hj2 : j = ps.length := by
    have := (List.getElem?_eq_some_iff.1 hq).1
    simp at this; omega
   subst hj2
   rw [List.getElem?_append_right (by omega)] at hu
   simp [h1] at hu hq
   subst hu hq
   exact ownsRow_of_block hp (fun k hk => hfr.block k (hp.lt k hk).2 (hpF k hk).2)
 ·by_cases hj : j < ps.length
  ·rw [List.getElem?_append_left (by omega)] at hu
   have ho := h3 j u _ hu (List.getElem?_eq_getElem hj)
   refine ⟨(h4 j u k hu hk).1, fun e => ?_⟩
   rcases hown' k e with e2 | e2
   ·exact (h4 j u k hu hk).2 e2
   ·have := (ho.lt k hk).2; omega
  ·rw [List.getElem?_append_right (by omega)] at hu
   have hu' : u = .slice a p.length c := by
    have := (List.getElem?_eq_some_iff.1 hu).1
    have h0 : j - us.length = 0 := by simp at this; omega
    rw [h0] at hu; simpa using hu.symm
   subst hu'
   refine ⟨(hpF k hk).1, fun e => ?_⟩
   rcases hown' k e with e2 | e2
   ·exact (hpF k hk).2 e2
   ·have := (hp.lt k hk).2; omega
 ·have hlast : ∀ (j : Nat) u, (us ++ [Value.slice a p.length c])[j]? = some u → ¬ j < us.length → u = .slice a p.length c := fun j u hu hj => by
   rw [List.getElem?_append_right (by omega)] at hu
   have := (List.getElem?_eq_some_iff.1 hu).1
   have h0 : j - us.length = 0 := by simp at this; omega
   rw [h0] at hu; simpa using hu.symm
  have hlen : ∀ (j : Nat) u, (us ++ [Value.slice a p.length c])[j]? = some u → j ≤ us.length := fun j u hu => by
   have := (List.getElem?_eq_some_iff.1 hu).1
   simp at this; omega
  by_cases hj1 : j < us.length
  ·by_cases hj2 : j' < us.length
   ·rw [List.getElem?_append_left hj1] at hu
    rw [List.getElem?_append_left hj2] at hu'
    exact h5 j j' u u' k hj hu hu' hk
   ·rw [List.getElem?_append_left hj1] at hu
    rw [hlast j' u' hu' hj2]
    intro e
    exact hne us h2 j u k hu e hk
  ·have h8' := hlen j u hu
   have h9' := hlen j' u' hu'
   have hj2 : j' < us.length := by omega
   rw [List.getElem?_append_left hj2] at hu'
   rw [hlast j u hu hj1] at hk
   exact hne us h2 j' u' k hu' hk
theorem own_at {w : World} {base e n k : Nat} {v : Value} {xs : List Value} (h : w.ownsRow base e 1 v n xs) (hk : v.ownBlock = some k) : ∃ m c, v = .slice (some ⟨k, 0, none⟩) m c := by
 rcases h.2 with ⟨rfl, _⟩ | ⟨g, cap, cur, rfl, _⟩
 ·cases hk
 ·cases hk
  exact ⟨_, _, rfl⟩
theorem Stp.grow {a b c : World} {F G : Nat → Prop} {P : Nat → Nat → Prop} {S : Nat → Prop} (h : Stp a b F G P) (hf : Fr S b c) (hS : ∀ k, S k → a.heap.size ≤ k) : Stp a c F G P := by
 have hs := h.fr.size
 refine ⟨h.fr.trans hf (fun i hi hx => by have := hS i hx; omega), h.new, fun g i hg hF hp => ?_, fun g i hg hF => ?_⟩
 ·exact (hf.cell (p := ⟨g, i, none⟩) (by show g < b.heap.size; omega) (fun hx => by have := hS g hx; omega)).trans (h.oth g i hg hF hp)
 ·exact (hf.frozen (p := ⟨g, i, none⟩) (by show g < b.heap.size; omega) (fun hx => by have := hS g hx; omega)).trans (h.fz g i hg hF)
def CS.pForm (c : CS) (k : Nat) : CS := (c.pU8 n_form [wiN k k 5] k).1
theorem ruc_one {α : Type} {en : World → Value → α → Prop} {w w1 : World} {cb b g i : Nat} {F K0 : Nat → Prop} {c : CS} {E : Nat → Addr} {r : α → Nat} {fv : Value} (T : TypeId) (h : Cd w cb b F c E) (hL : Loc w cb F g i) (hF : FnR en w1 K0 fv E r) (hf : Fr (fun _ => False) w w1) (hK : Knew w K0) :
  RuC en (w1.alloc (.cells #[fv] T)) F g (.slice (some ⟨w1.heap.size, 0, none⟩) 1 1) E [r] := by
 have hb := box1 w1 (.cells #[fv] T)
 have hlt : ∀ k, (K0 k ∨ k = w1.heap.size) → k < (w1.alloc (.cells #[fv] T)).heap.size := fun k hk => by
  rcases hk with hk | rfl
  ·exact Nat.lt_of_lt_of_le (hF.lt k hk) hb.size
  ·simp
 refine ⟨⟨fun k => K0 k ∨ k = w1.heap.size, ⟨hlt, ⟨_, _, rfl⟩, fun _ _ _ e => .inr ⟨w1.heap.size, 0, by cases e; rfl⟩, fun xo n c' e j r' hr => ?_⟩, fun k hk => ?_⟩, by simp⟩
 ·have ex : xo = some ⟨w1.heap.size, 0, none⟩ := by cases e; rfl
  have hj : j = 0 := by
   have := (List.getElem?_eq_some_iff.1 hr).1
   simp at this; exact this
  subst hj
  obtain rfl : r = r' := by simpa using hr
  exact ⟨w1.heap.size, 0, fv, ex, .inr rfl, by simp, hF.mono (fun k hk => hb.block k (hF.lt k hk) (fun h => h)) (fun _ h => .inl h) hlt⟩
 ·rcases hk with hk | rfl
  ·exact knew_apart h hL hK k hk
  ·have h1 := hf.size
   have h2 := hL.lt
   exact ⟨fun hx => by have := h.lt _ hx; omega, by omega⟩
set_option maxRecDepth 100000 in
theorem form_any (c : CS) (k : Nat) (cb b : Nat) (F : Nat → Prop) (E : Nat → Addr) (w : World) (h : Cd w cb b F c E) (hk : k < 256) (hroom : c.room 1) :
  Calls Tryz.prog 107 #[.pointer (some ⟨cb, 0, none⟩), .int .u8 (k : Nat)] w fun e w' => e = .returned (.tuple #[]) ∧ ∃ F', Cd w' cb b F' (c.pForm k) E ∧ Stp w w' F F' (fun _ _ => False) := by
 have k5 := h.g7.k5
 have hl5 := ltC k5
 have hsf := st_func
 have hbx := box1 w (.cells #[.int .u8 (k : Nat)] 5)
 have HW := hid (within_u8 k k 5 E (w.alloc (.cells #[.int .u8 (k : Nat)] 5)) (by decide))
 have hgo : ∀ w1 fv K0, FnR enU8 w1 K0 fv E (wiN k k 5) → Fr (fun _ => False) (w.alloc (.cells #[.int .u8 (k : Nat)] 5)) w1 → Knew (w.alloc (.cells #[.int .u8 (k : Nat)] 5)) K0 → ∀ T,
   Calls Tryz.prog 127 #[.pointer (some ⟨cb, 0, none⟩), .string n_form, .pointer (some ⟨w.heap.size, 0, none⟩), .slice (some ⟨w1.heap.size, 0, none⟩) 1 1] (w1.alloc (.cells #[fv] T)) fun e w' => e = .returned (.tuple #[]) ∧ ∃ F', Cd w' cb b F' (c.pForm k) E ∧ Stp w w' F F' (fun _ _ => False) := by
  intro w1 fv K0 hF hf hK T
  have hf2 := hf.trans (box1 w1 (.cells #[fv] T)) (fun _ _ h => h)
  have hf02 := hbx.trans hf2 (fun _ _ h => h)
  have hL0 := h.box #[.int .u8 (k : Nat)] 5 0
  refine (number_u8 c n_form [wiN k k 5] k cb b w.heap.size 0 F E _ _ (h.fr0 hf02) ((hf2.cell (p := ⟨w.heap.size, 0, none⟩) (by simp) (fun h => h)).trans (by simp)) (hL0.fr0 hf2) hk (ruc_one T (h.fr0 hbx) hL0 hF hf hK) hroom).mono ?_
  rintro e w' ⟨rfl, F', hC, _, hs⟩
  exact ⟨rfl, F', hC, (Stp.of_fr hf02 F _).trans hs (fun k j hk h => by omega)⟩
 have HG := hid hgo
 clear h hgo
 go_enter Tryz.func107, Tryz.ntmps107
 go_wp2_with fail
 refine (uh HW).mono ?_
 rintro e w1 ⟨fv, rfl, K0, hF, hf, hK⟩
 have HX := hid ((uh HG) w1 fv K0 hF hf hK 241)
 obtain ⟨Fc, caps, rfl, _⟩ := hF.ex
 clear hF hf hK
 go_wp2_with fail
 refine (uh HX).mono ?_
 rintro e w' ⟨rfl, hr⟩
 have HR := hid hr
 clear hr
 go_wp2_with fail
 go_end0
 exact ⟨rfl, uh HR⟩
structure BVg (w : World) (x : Value) (l : List Nat) (F : Nat → Prop) (g : Nat) : Prop where
 bv : BV w x l F
 ng : ∀ k o m c, x = .slice (some ⟨k, o, none⟩) m c → k ≠ g
 len : l.length < 9223372036854775808
theorem BVg.stp {w w' : World} {x : Value} {l : List Nat} {F F' : Nat → Prop} {P : Nat → Nat → Prop} {g : Nat} (h : BVg w x l F g) (hs : Stp w w' F F' P) (hP : ∀ k i, k < w.heap.size → P k i → k = g) : BVg w' x l F' g :=
 ⟨h.bv.stp hs (fun k o m c e i hp => h.ng k o m c e (hP k i (h.bv.at_ k o m c e).1 hp)), h.ng, h.len⟩
structure BO (w0 w : World) (c : CS) (x' : Value) (l' : List Nat) (F : Nat → Prop) (g : Nat) : Prop where
 bv : BVg w x' l' F g
 val : ∀ q, c = .rd q → w.ownsRow w0.heap.size 5 1 x' l'.length (cellsOf l')
theorem BO.stp {w0 w w' : World} {c : CS} {x' : Value} {l' : List Nat} {F F' : Nat → Prop} {P : Nat → Nat → Prop} {g : Nat} (h : BO w0 w c x' l' F g) (hs : Stp w w' F F' P) (hP : ∀ k i, k < w.heap.size → P k i → k = g) : BO w0 w' c x' l' F' g := by
 refine ⟨h.bv.stp hs hP, fun q hq => ownsRow_of_block (h.val q hq) (fun k hk => ?_)⟩
 obtain ⟨m, c', e⟩ := own_at (h.val q hq) hk
 have ha := h.bv.bv.at_ k 0 m c' e
 exact hs.block ha.1 ha.2 (fun j hp => h.bv.ng k 0 m c' e (hP k j ha.1 hp))
theorem BO.mode {w0 w1 w : World} {c c1 : CS} {x' : Value} {l' : List Nat} {F : Nat → Prop} {g : Nat} (h : BO w1 w c1 x' l' F g) (hs : w0.heap.size ≤ w1.heap.size) (hm : ∀ q, c = .rd q → ∃ q', c1 = .rd q') : BO w0 w c x' l' F g :=
 ⟨h.bv, fun q hq => by obtain ⟨q', h1⟩ := hm q hq; exact own_mono (h.val q' h1) hs⟩
theorem bo_of {w w' : World} {cb b g i : Nat} {c : CS} {E : Nat → Addr} {nm : ByteArray} {m : Int} {rs : List (List Nat → Nat)} {x x' : Value} {v : List Nat} {F F' : Nat → Prop} (h : Cd w cb b F c E) (hB : BVg w x v F g) (hg : g < w.heap.size) (hs : Stp w w' F F' (fun k j => k = g ∧ j = i))
  (hx : ((∃ s, c = .wr s) ∧ x' = x) ∨ w'.ownsRow w.heap.size 5 1 x' (c.pByt nm m rs v).2.length (cellsOf (c.pByt nm m rs v).2)) (hno : ∀ k o m c, x' = .slice (some ⟨k, o, none⟩) m c → ¬ F' k) : BO w w' c x' (c.pByt nm m rs v).2 F' g := by
 rcases hx with ⟨⟨s, rfl⟩, rfl⟩ | hown
 ·exact ⟨hB.stp hs (fun k j _ h => h.1), fun q e => by cases e⟩
 ·exact ⟨⟨⟨own_src hown, fun k o m c e => ⟨(hown.lt k (by rw [e]; rfl)).2, hno k o m c e⟩⟩, fun k o m c e => by have := (hown.lt k (by rw [e]; rfl)).1; omega, CS.pByt_lt h nm m rs v hB.len⟩, fun _ _ => hown⟩
def CS.pHead (c : CS) (v : Nat × List Nat) : CS × Nat × List Nat := (((c.pU32 n_size [] v.1).1.pHash n_root v.2).1, (c.pU32 n_size [] v.1).2, ((c.pU32 n_size [] v.1).1.pHash n_root v.2).2)
def cellsAt (g o n : Nat) (k j : Nat) : Prop := k = g ∧ o ≤ j ∧ j < o + n
theorem CS.pU32_mode (c : CS) (nm : ByteArray) (rs : List (Nat → Nat)) (v : Nat) : ∀ q, c = .rd q → ∃ q', (c.pU32 nm rs v).1 = .rd q' := by rintro q rfl; exact ⟨_, rfl⟩
set_option maxRecDepth 100000 in
theorem head_any (c : CS) (size : Nat) (root : List Nat) (x : Value) (cb b g o : Nat) (F : Nat → Prop) (E : Nat → Addr) (w : World) (h : Cd w cb b F c E) (hp0 : w.cell? ⟨g, o, none⟩ = some (.int .u32 (size : Nat))) (hp1 : w.cell? ⟨g, o + 1, none⟩ = some x) (hB : BVg w x root F g) (hL : ∀ i, Loc w cb F g i) (hsz : size < 4294967296) (hroom : c.room 2) :
  Calls Tryz.prog 111 #[.pointer (some ⟨cb, 0, none⟩), .pointer (some ⟨g, o, none⟩)] w fun e w' => e = .returned (.tuple #[]) ∧ ∃ F', Cd w' cb b F' (c.pHead (size, root)).1 E ∧ w'.cell? ⟨g, o, none⟩ = some (.int .u32 ((c.pHead (size, root)).2.1 : Nat)) ∧ ∃ x', w'.cell? ⟨g, o + 1, none⟩ = some x' ∧ BO w w' c x' (c.pHead (size, root)).2.2 F' g ∧ Stp w w' F F' (cellsAt g o 2) := by
 have H := hid (And.intro h (And.intro hB hL))
 have HN := hid (number_u32 c n_size [] size cb b g o F E (.slice none 0 0) w h hp0 (hL o) hsz (RuC.nil _ w F g E) (by simp only [CS.room] at *; omega))
 clear h hB hL
 go_enter Tryz.func111, Tryz.ntmps111
 go_wp2_with fail
 refine (uh HN).mono ?_
 rintro e w1 ⟨rfl, F1, hC1, hc1, hs1⟩
 have hgl := ((uh H).2.2 o).lt
 have hgF := ((uh H).2.2 o).nF
 have hB1 := (uh H).2.1.stp hs1 (fun k i _ h => h.1)
 have hp1' : w1.cell? ⟨g, o + 1, none⟩ = some x := (hs1.oth g (o + 1) hgl hgF (fun h => by omega)).trans hp1
 have HH := hid (hash_any (c.pU32 n_size [] size).1 n_root x root cb b g (o + 1) F1 E w1 hC1 hp1' hB1.bv (((uh H).2.2 (o + 1)).stp hs1) hB1.len (CS.pU32_room (by simpa using hroom) _ _ _))
 have H1 := hid (And.intro hs1 (And.intro hc1 (And.intro hC1 hB1)))
 clear hC1 hs1 hB1 hp1' hc1
 go_wp2_with fail
 refine (uh HH).mono ?_
 rintro e w2 ⟨rfl, F2, x2, hC2, hx2, ho2, hn2, hs2⟩
 have hgl1 := Nat.lt_of_lt_of_le hgl (uh H1).1.size
 have hc2 : w2.cell? ⟨g, o, none⟩ = some (.int .u32 ((c.pU32 n_size [] size).2 : Nat)) := (hs2.oth g o hgl1 ((uh H1).1.nF hgl hgF) (fun h => by omega)).trans (uh H1).2.1
 have hbo := (bo_of (uh H1).2.2.1 (uh H1).2.2.2 hgl1 hs2 ho2 hn2).mode (uh H1).1.size (c.pU32_mode n_size [] size)
 have H2 := hid (And.intro hC2 (And.intro hc2 (And.intro hx2 (And.intro hbo (((uh H1).1.mono (P' := cellsAt g o 2) (fun k j _ h => ⟨h.1, by omega, by omega⟩)).trans hs2 (fun k j _ h => ⟨h.1, by omega, by omega⟩))))))
 clear hC2 hc2 hx2 ho2 hn2 hs2 hbo
 go_wp2_with fail
 go_end0
 exact ⟨rfl, F2, (uh H2).1, (uh H2).2.1, x2, (uh H2).2.2.1, (uh H2).2.2.2.1, (uh H2).2.2.2.2⟩
theorem Tryz.wh_Request (p : Addr) (w : World) : (Instr.typeAssert (.iface 157 (.pointer (some p))) 20 157 true).run Tryz.prog w = .ok (.tuple #[.pointer (some p), .bool true]) w := by kernel_rfl
theorem Tryz.wh_Answer (p : Addr) (w : World) : (Instr.typeAssert (.iface 158 (.pointer (some p))) 20 158 true).run Tryz.prog w = .ok (.tuple #[.pointer (some p), .bool true]) w := by kernel_rfl
theorem Tryz.wm_Answer_Request (p : Addr) (w : World) : (Instr.typeAssert (.iface 158 (.pointer (some p))) 20 157 true).run Tryz.prog w = .ok (.tuple #[.pointer none, .bool false]) w := by kernel_rfl
theorem Tryz.wh_Event (p : Addr) (w : World) : (Instr.typeAssert (.iface 210 (.pointer (some p))) 20 210 true).run Tryz.prog w = .ok (.tuple #[.pointer (some p), .bool true]) w := by kernel_rfl
theorem Tryz.wm_Event_Request (p : Addr) (w : World) : (Instr.typeAssert (.iface 210 (.pointer (some p))) 20 157 true).run Tryz.prog w = .ok (.tuple #[.pointer none, .bool false]) w := by kernel_rfl
theorem Tryz.wm_Event_Answer (p : Addr) (w : World) : (Instr.typeAssert (.iface 210 (.pointer (some p))) 20 158 true).run Tryz.prog w = .ok (.tuple #[.pointer none, .bool false]) w := by kernel_rfl
theorem Tryz.wh_Head (p : Addr) (w : World) : (Instr.typeAssert (.iface 173 (.pointer (some p))) 20 173 true).run Tryz.prog w = .ok (.tuple #[.pointer (some p), .bool true]) w := by kernel_rfl
theorem Tryz.wm_Head_Request (p : Addr) (w : World) : (Instr.typeAssert (.iface 173 (.pointer (some p))) 20 157 true).run Tryz.prog w = .ok (.tuple #[.pointer none, .bool false]) w := by kernel_rfl
theorem Tryz.wm_Head_Answer (p : Addr) (w : World) : (Instr.typeAssert (.iface 173 (.pointer (some p))) 20 158 true).run Tryz.prog w = .ok (.tuple #[.pointer none, .bool false]) w := by kernel_rfl
theorem Tryz.wm_Head_Event (p : Addr) (w : World) : (Instr.typeAssert (.iface 173 (.pointer (some p))) 20 210 true).run Tryz.prog w = .ok (.tuple #[.pointer none, .bool false]) w := by kernel_rfl
theorem Tryz.wh_Signed (p : Addr) (w : World) : (Instr.typeAssert (.iface 213 (.pointer (some p))) 20 213 true).run Tryz.prog w = .ok (.tuple #[.pointer (some p), .bool true]) w := by kernel_rfl
theorem Tryz.wm_Signed_Request (p : Addr) (w : World) : (Instr.typeAssert (.iface 213 (.pointer (some p))) 20 157 true).run Tryz.prog w = .ok (.tuple #[.pointer none, .bool false]) w := by kernel_rfl
theorem Tryz.wm_Signed_Answer (p : Addr) (w : World) : (Instr.typeAssert (.iface 213 (.pointer (some p))) 20 158 true).run Tryz.prog w = .ok (.tuple #[.pointer none, .bool false]) w := by kernel_rfl
theorem Tryz.wm_Signed_Event (p : Addr) (w : World) : (Instr.typeAssert (.iface 213 (.pointer (some p))) 20 210 true).run Tryz.prog w = .ok (.tuple #[.pointer none, .bool false]) w := by kernel_rfl
theorem Tryz.wm_Signed_Head (p : Addr) (w : World) : (Instr.typeAssert (.iface 213 (.pointer (some p))) 20 173 true).run Tryz.prog w = .ok (.tuple #[.pointer none, .bool false]) w := by kernel_rfl
theorem Tryz.wh_Proof (p : Addr) (w : World) : (Instr.typeAssert (.iface 215 (.pointer (some p))) 20 215 true).run Tryz.prog w = .ok (.tuple #[.pointer (some p), .bool true]) w := by kernel_rfl
theorem Tryz.wm_Proof_Request (p : Addr) (w : World) : (Instr.typeAssert (.iface 215 (.pointer (some p))) 20 157 true).run Tryz.prog w = .ok (.tuple #[.pointer none, .bool false]) w := by kernel_rfl
theorem Tryz.wm_Proof_Answer (p : Addr) (w : World) : (Instr.typeAssert (.iface 215 (.pointer (some p))) 20 158 true).run Tryz.prog w = .ok (.tuple #[.pointer none, .bool false]) w := by kernel_rfl
theorem Tryz.wm_Proof_Event (p : Addr) (w : World) : (Instr.typeAssert (.iface 215 (.pointer (some p))) 20 210 true).run Tryz.prog w = .ok (.tuple #[.pointer none, .bool false]) w := by kernel_rfl
theorem Tryz.wm_Proof_Head (p : Addr) (w : World) : (Instr.typeAssert (.iface 215 (.pointer (some p))) 20 173 true).run Tryz.prog w = .ok (.tuple #[.pointer none, .bool false]) w := by kernel_rfl
theorem Tryz.wm_Proof_Signed (p : Addr) (w : World) : (Instr.typeAssert (.iface 215 (.pointer (some p))) 20 213 true).run Tryz.prog w = .ok (.tuple #[.pointer none, .bool false]) w := by kernel_rfl
theorem Tryz.wh_Message (p : Addr) (w : World) : (Instr.typeAssert (.iface 145 (.pointer (some p))) 20 145 true).run Tryz.prog w = .ok (.tuple #[.pointer (some p), .bool true]) w := by kernel_rfl
theorem Tryz.wm_Message_Request (p : Addr) (w : World) : (Instr.typeAssert (.iface 145 (.pointer (some p))) 20 157 true).run Tryz.prog w = .ok (.tuple #[.pointer none, .bool false]) w := by kernel_rfl
theorem Tryz.wm_Message_Answer (p : Addr) (w : World) : (Instr.typeAssert (.iface 145 (.pointer (some p))) 20 158 true).run Tryz.prog w = .ok (.tuple #[.pointer none, .bool false]) w := by kernel_rfl
theorem Tryz.wm_Message_Event (p : Addr) (w : World) : (Instr.typeAssert (.iface 145 (.pointer (some p))) 20 210 true).run Tryz.prog w = .ok (.tuple #[.pointer none, .bool false]) w := by kernel_rfl
theorem Tryz.wm_Message_Head (p : Addr) (w : World) : (Instr.typeAssert (.iface 145 (.pointer (some p))) 20 173 true).run Tryz.prog w = .ok (.tuple #[.pointer none, .bool false]) w := by kernel_rfl
theorem Tryz.wm_Message_Signed (p : Addr) (w : World) : (Instr.typeAssert (.iface 145 (.pointer (some p))) 20 213 true).run Tryz.prog w = .ok (.tuple #[.pointer none, .bool false]) w := by kernel_rfl
theorem Tryz.wm_Message_Proof (p : Addr) (w : World) : (Instr.typeAssert (.iface 145 (.pointer (some p))) 20 215 true).run Tryz.prog w = .ok (.tuple #[.pointer none, .bool false]) w := by kernel_rfl
theorem CS.pHead_room {c : CS} {n : Nat} (h : c.room (n + 2)) (v : Nat × List Nat) : (c.pHead v).1.room n := CS.pHash_room (CS.pU32_room h _ _ _) _ _
def CS.pSigned (c : CS) (v : (Nat × List Nat) × Nat × List Nat) : CS × (Nat × List Nat) × Nat × List Nat :=
 ((((c.pHead v.1).1.pU32 n_key [] v.2.1).1.pByt n_signature 32768 [fun v => szN 0 32768 v.length] v.2.2).1, (c.pHead v.1).2, ((c.pHead v.1).1.pU32 n_key [] v.2.1).2, (((c.pHead v.1).1.pU32 n_key [] v.2.1).1.pByt n_signature 32768 [fun v => szN 0 32768 v.length] v.2.2).2)
set_option maxRecDepth 100000 in
theorem signed_any (c : CS) (size key : Nat) (root sig : List Nat) (x y : Value) (cb b g o : Nat) (F : Nat → Prop) (E : Nat → Addr) (w : World) (h : Cd w cb b F c E) (hp0 : w.cell? ⟨g, o, none⟩ = some (.int .u32 (size : Nat))) (hp1 : w.cell? ⟨g, o + 1, none⟩ = some x) (hp2 : w.cell? ⟨g, o + 2, none⟩ = some (.int .u32 (key : Nat))) (hp3 : w.cell? ⟨g, o + 3, none⟩ = some y) (hB : BVg w x root F g) (hB2 : BVg w y sig F g) (hL : ∀ i, Loc w cb F g i) (hsz : size < 4294967296) (hkey : key < 4294967296) (hroom : c.room 4) :
  Calls Tryz.prog 112 #[.pointer (some ⟨cb, 0, none⟩), .pointer (some ⟨g, o, none⟩)] w fun e w' => e = .returned (.tuple #[]) ∧ ∃ F', Cd w' cb b F' (c.pSigned ((size, root), key, sig)).1 E ∧ w'.cell? ⟨g, o, none⟩ = some (.int .u32 ((c.pSigned ((size, root), key, sig)).2.1.1 : Nat)) ∧ w'.cell? ⟨g, o + 2, none⟩ = some (.int .u32 ((c.pSigned ((size, root), key, sig)).2.2.1 : Nat)) ∧ ∃ x' y', w'.cell? ⟨g, o + 1, none⟩ = some x' ∧ w'.cell? ⟨g, o + 3, none⟩ = some y' ∧ BO w w' c x' (c.pSigned ((size, root), key, sig)).2.1.2 F' g ∧ BO w w' c y' (c.pSigned ((size, root), key, sig)).2.2.2 F' g ∧ Stp w w' F F' (cellsAt g o 4) := by
 have H := hid (And.intro h (And.intro hB2 hL))
 have HH := hid (head_any c size root x cb b g o F E w h hp0 hp1 hB hL hsz (by simp only [CS.room] at *; omega))
 have hgl := (hL o).lt
 have hgF := (hL o).nF
 clear h hB hB2 hL
 go_enter Tryz.func112, Tryz.ntmps112
 go_wp2_with fail
 refine (uh HH).mono ?_
 rintro e w1 ⟨rfl, F1, hC1, hc1, x1, hx1, ho1, hs1⟩
 have hgl1 := Nat.lt_of_lt_of_le hgl hs1.size
 have hgF1 := hs1.nF hgl hgF
 have hp2' : w1.cell? ⟨g, o + 2, none⟩ = some (.int .u32 (key : Nat)) := (hs1.oth g (o + 2) hgl hgF (fun h => by have := h.2; omega)).trans hp2
 have hp3' : w1.cell? ⟨g, o + 3, none⟩ = some y := (hs1.oth g (o + 3) hgl hgF (fun h => by have := h.2; omega)).trans hp3
 have hB1 := (uh H).2.1.stp hs1 (fun k i _ h => h.1)
 have hr1 : (c.pHead (size, root)).1.room 2 := CS.pHead_room (by simpa using hroom) _
 have HN := hid (number_u32 (c.pHead (size, root)).1 n_key [] key cb b g (o + 2) F1 E (.slice none 0 0) w1 hC1 hp2' (((uh H).2.2 (o + 2)).stp hs1) hkey (RuC.nil _ w1 F1 g E) (by simp only [CS.room] at *; omega))
 have H1 := hid (And.intro hs1 (And.intro hc1 (And.intro hC1 (And.intro hB1 (And.intro hx1 (And.intro ho1 (And.intro hp3' (And.intro hgF1 hr1))))))))
 clear hs1 hc1 hC1 hB1 hx1 ho1 hp3' hgF1 hr1
 go_wp2_with fail
 refine (uh HN).mono ?_
 rintro e w2 ⟨rfl, F2, hC2, hc2, hs2⟩
 obtain ⟨hs1, hc1, hC1, hB1, hx1, ho1, hp3', hgF1, hr1⟩ := uh H1
 have hgl2 := Nat.lt_of_lt_of_le hgl1 hs2.size
 have hgF2 := hs2.nF hgl1 hgF1
 have hP2 : ∀ k i, k < w1.heap.size → (k = g ∧ i = o + 2) → k = g := fun k i _ h => h.1
 have hB2 := hB1.stp hs2 hP2
 have hp3'' : w2.cell? ⟨g, o + 3, none⟩ = some y := (hs2.oth g (o + 3) hgl1 hgF1 (fun h => by omega)).trans hp3'
 have hr2 := CS.pU32_room (n := 1) hr1 n_key [] key
 have HR := hid (run_byt ((c.pHead (size, root)).1.pU32 n_key [] key).1 n_signature 0 32768 [] y sig cb b g (o + 3) F2 E (.slice none 0 0) w2 hC2 hp3'' hB2.bv ((((uh H).2.2 (o + 3)).stp hs1).stp hs2) hB2.len (by decide) (RuC.nil _ w2 F2 g E) (by decide) hr2)
 have hx2 : w2.cell? ⟨g, o + 1, none⟩ = some x1 := (hs2.oth g (o + 1) hgl1 hgF1 (fun h => by omega)).trans hx1
 have hz2 : w2.cell? ⟨g, o, none⟩ = some (.int .u32 ((c.pHead (size, root)).2.1 : Nat)) := (hs2.oth g o hgl1 hgF1 (fun h => by omega)).trans hc1
 have ho2 := ho1.stp hs2 hP2
 have hs02 : Stp w w2 F F2 (cellsAt g o 4) := (hs1.mono (fun k j _ h => ⟨h.1, h.2.1, by have := h.2.2; omega⟩)).trans hs2 (fun k j _ h => ⟨h.1, by omega, by omega⟩)
 have H2 := hid (And.intro hs02 (And.intro hc2 (And.intro hC2 (And.intro hB2 (And.intro hx2 (And.intro ho2 (And.intro hz2 (And.intro hgF2 hgl2))))))))
 clear hs1 hc1 hC1 hB1 hx1 ho1 hp3' hgF1 hr1 hs2 hc2 hC2 hB2 hx2 ho2 hp3'' hgF2 hr2 hP2 hs02 hz2 H1 HN HH
 go_wp2_with fail
 refine (uh HR).mono ?_
 rintro e w3 ⟨rfl, F3, y3, hC3, hy3, hyo, hyn, hs3⟩
 obtain ⟨hs02, hc2, hC2, hB2, hx2, ho2, hz2, hgF2, hgl2⟩ := uh H2
 have hbo := (bo_of hC2 hB2 hgl2 hs3 hyo hyn).mode (w0 := w) (c := c) hs02.size (by rintro q rfl; exact ⟨_, rfl⟩)
 have H3 := hid (And.intro hC3 (And.intro ((hs3.oth g o hgl2 hgF2 (fun h => by omega)).trans hz2) (And.intro ((hs3.oth g (o + 2) hgl2 hgF2 (fun h => by omega)).trans hc2) (And.intro ((hs3.oth g (o + 1) hgl2 hgF2 (fun h => by omega)).trans hx2) (And.intro hy3 (And.intro (ho2.stp hs3 (fun k j _ h => h.1)) (And.intro hbo (hs02.trans hs3 (fun k j _ h => ⟨h.1, by omega, by omega⟩)))))))))
 clear hC3 hy3 hyo hyn hs3 hs02 hc2 hC2 hB2 hx2 ho2 hz2 hgF2 hgl2 hbo
 go_wp2_with fail
 go_end0
 obtain ⟨a1, a2, a3, a4, a5, a6, a7, a8⟩ := uh H3
 exact ⟨rfl, F3, a1, a2, a3, x1, y3, a4, a5, a6, a7, a8⟩
end Go.Proofs.YtdcopmkgmbiikaaGreatDoor
namespace Go.Proofs.YtdcopmkgmbiikaaGreatDoor
open Go.RowKit
end Go.Proofs.YtdcopmkgmbiikaaGreatDoor
namespace Go.Proofs.YtdcopmkgmbiikaaGreatDoor
open Go.RowKit
theorem and_exp (x : Nat) : x &&& 2139095040 = x / 8388608 % 256 * 8388608 := by
 have e1 : (2139095040 : Nat) = (2 ^ 8 - 1) * 2 ^ 23 := by decide
 have e2 : x / 8388608 % 256 * 8388608 = x / 2 ^ 23 % 2 ^ 8 * 2 ^ 23 := rfl
 rw [e1, e2]
 apply Nat.eq_of_testBit_eq
 intro i
 rw [Nat.testBit_and, Nat.testBit_mul_two_pow, Nat.testBit_mul_two_pow, Nat.testBit_two_pow_sub_one, Nat.testBit_mod_two_pow, Nat.testBit_div_two_pow]
 by_cases h : 23 ≤ i
 ·rw [show i - 23 + 23 = i from by omega]
  simp [h, Bool.and_comm]
 ·simp [h]
theorem quantB_eq (x : Nat) : quantB x = ((x / 8388608 % 256 != 255) && (x != 2147483648)) := by
 unfold quantB
 rw [and_exp, Bool.eq_iff_iff]
 simp
 omega
theorem gquant_any (x : Nat) (w : World) (hx : x < 18446744073709551616) : Calls Tryz.prog 121 #[.int .u64 x] w fun e w' => e = .returned (.bool (quantB x)) ∧ w' = w := by
 rw [quantB_eq]
 have hw : IntKind.u64.wrap ((x : Int) / 8388608) = ((x / 8388608 : Nat) : Int) := by rw [IntKind.wrap_u64]; omega
 by_cases h : (x : Int) / 8388608 % 256 = 255
 ·have h2 : x / 8388608 % 256 = 255 := by omega
  go_enter Tryz.func121, Tryz.ntmps121
  go_wp2
  all_goals
   go_ret
   refine ⟨congrArg (fun b => Ending.returned (.bool b)) ?_, rfl⟩
   simp [h2]
 ·have h2 : ¬ x / 8388608 % 256 = 255 := by omega
  have e2 : ((x : Int) != 2147483648) = (x != 2147483648) := by rw [Bool.eq_iff_iff]; simp; omega
  have e1 : ((x : Int) / 8388608 % 256 != 255) = true := by simp [h]
  go_enter Tryz.func121, Tryz.ntmps121
  go_wp2
  all_goals
   go_ret
   refine ⟨congrArg (fun b => Ending.returned (.bool b)) ?_, rfl⟩
   simp [h2]
end Go.Proofs.YtdcopmkgmbiikaaGreatDoor
namespace Go.Proofs.YtdcopmkgmbiikaaGreatDoor
open Go.RowKit
end Go.Proofs.YtdcopmkgmbiikaaGreatDoor
namespace Go.Proofs.YtdcopmkgmbiikaaGreatDoor
open Go.RowKit
end Go.Proofs.YtdcopmkgmbiikaaGreatDoor
namespace Go.Proofs.YtdcopmkgmbiikaaGreatDoor
open Go.RowKit
end Go.Proofs.YtdcopmkgmbiikaaGreatDoor
namespace Go.Proofs.YtdcopmkgmbiikaaGreatDoor
open Go.RowKit
def C7 (w : World) (g : Nat) (a0 a1 a2 a3 a4 a5 a6 : Value) : Prop :=
 w.cell? ⟨g, 0, none⟩ = some a0 ∧ w.cell? ⟨g, 1, none⟩ = some a1 ∧ w.cell? ⟨g, 2, none⟩ = some a2 ∧ w.cell? ⟨g, 3, none⟩ = some a3 ∧ w.cell? ⟨g, 4, none⟩ = some a4 ∧ w.cell? ⟨g, 5, none⟩ = some a5 ∧ w.cell? ⟨g, 6, none⟩ = some a6 ∧ ∀ i, w.frozen? ⟨g, i, none⟩ = false
theorem C7.fr {w w' : World} {g : Nat} {a0 a1 a2 a3 a4 a5 a6 : Value} {S : Nat → Prop} (h : C7 w g a0 a1 a2 a3 a4 a5 a6) (hf : Fr S w w') (hS : ¬ S g) : C7 w' g a0 a1 a2 a3 a4 a5 a6 := by
 obtain ⟨h0, h1, h2, h3, h4, h5, h6, hz⟩ := h
 have hg : g < w.heap.size := ltC h0
 have key : ∀ {i : Nat} {v : Value}, w.cell? ⟨g, i, none⟩ = some v → w'.cell? ⟨g, i, none⟩ = some v := fun h => (hf.cell hg hS).trans h
 exact ⟨key h0, key h1, key h2, key h3, key h4, key h5, key h6, fun i => (hf.frozen hg hS).trans (hz i)⟩
def ftV (x : Option (ByteArray × Nat × Nat)) : ByteArray × Nat × Nat := match x with
 | none => (⟨#[]⟩, 0, 0)
 | some y => y
def Q.ended (q : Q) : ByteArray × Nat × Nat := if q.f = none ∧ q.place < q.all.length then (q.nm, q.place, 3) else ftV q.f
def ErrV (w : World) (v : Value) (x : ByteArray × Nat × Nat) (E : Nat → Addr) : Prop :=
 (x.2.2 = 0 ∧ v = .nilIface) ∨ (1 ≤ x.2.2 ∧ x.2.2 ≤ 7 ∧ ∃ fb, v = .iface 78 (.pointer (some ⟨fb, 0, none⟩)) ∧ w.heap[fb]? = some (faultObj x.1 x.2.1 (E x.2.2)))
theorem ErrV.fr {w w' : World} {v : Value} {x : ByteArray × Nat × Nat} {E : Nat → Addr} (h : ErrV w v x E) (hf : Fr (fun _ => False) w w') : ErrV w' v x E := by
 rcases h with h | ⟨h1, h7, fb, rfl, hb⟩
 ·exact .inl h
 ·have hlt : fb < w.heap.size := by
   rcases Nat.lt_or_ge fb w.heap.size with hx | hx
   ·exact hx
   ·rw [Array.getElem?_eq_none hx] at hb; cases hb
  exact .inr ⟨h1, h7, fb, rfl, (hf.block fb hlt (fun h => h)).trans hb⟩
set_option maxRecDepth 100000 in
theorem rDone_given (b : Nat) (F : Nat → Prop) (s : Rst) (what : ByteArray) (place : Nat) (ea : Addr) (w : World) (h : R w b F s) (hn : s.f = some (what, place, ea)) :
  Calls Tryz.prog 86 #[.pointer (some ⟨b, 0, none⟩)] w fun e w' => ∃ fa, e = .returned (.iface 78 (.pointer (some ⟨fa, 0, none⟩))) ∧ w'.heap[fa]? = some (faultObj what place ea) ∧ Fr (fun _ => False) w w' := by
 rcases h.st with ⟨h1, _⟩ | ⟨what', place', ea', fb, h1, h2, h3, h4, h5, h6, h7⟩
 ·rw [hn] at h1; cases h1
 rw [hn] at h1
 obtain ⟨rfl, rfl, rfl⟩ : what = what' ∧ place = place' ∧ ea = ea' := by simpa using h1
 have H7 := hid h7
 clear h1 h2 h3 h5 h6 h7 h hn
 go_enter Tryz.func86, Tryz.ntmps86
 go_wp2_with fail
 go_quiet (fail)
 go_wp2_with fail
 refine (told_some b fb place what ea (w.drewN nq) (by simpa using h4) (uh H7)).mono ?_
 rintro e w' ⟨rfl, rfl⟩
 go_wp2_with fail
 go_ret
 exact ⟨_, rfl, heap_alloc_new _ _, ((Fr.refl _ _).drewN _).alloc _⟩
theorem done_any (q : Q) (b : Nat) (F : Nat → Prop) (E : Nat → Addr) (w : World) (h : R w b F (q.rst E)) (hq : q.ok) (hg : Gl w E) :
  Calls Tryz.prog 86 #[.pointer (some ⟨b, 0, none⟩)] w fun e w' => ∃ v, e = .returned v ∧ ErrV w' v q.ended E ∧ Fr (fun _ => False) w w' := by
 obtain ⟨nm, all, place, part, f⟩ := q
 cases f with
 | none =>
  by_cases hp : place < all.length
  ·rw [Q.ended, if_pos ⟨rfl, hp⟩]
   refine (rDone_trail b F _ E w hg h rfl hp).mono ?_
   rintro e w' ⟨fb, rfl, hb, hf, _⟩
   exact ⟨_, rfl, .inr ⟨(by decide : 1 ≤ 3), (by decide : 3 ≤ 7), fb, rfl, hb⟩, hf⟩
  ·rw [Q.ended, if_neg (fun x => hp x.2)]
   have hple : place = all.length := Nat.le_antisymm hq.place (by omega)
   refine (rDone_end b F _ w h rfl hple).mono ?_
   rintro e w' ⟨rfl, hf⟩
   exact ⟨_, rfl, .inl ⟨rfl, rfl⟩, hf⟩
 | some y =>
  rw [Q.ended, if_neg (fun x => by cases x.1)]
  refine (rDone_given b F _ y.1 y.2.1 (E y.2.2) w h rfl).mono ?_
  rintro e w' ⟨fb, rfl, hb, hf⟩
  exact ⟨_, rfl, .inr ⟨(hq.f y rfl).2.1, (hq.f y rfl).2.2, fb, rfl, hb⟩, hf⟩
abbrev TS (w0 : World) (g : Nat) (a0 a1 a2 a3 a4 a5 a6 : Value) (w : World) : Prop :=
 w.cell? ⟨g, 0, none⟩ = some a0 ∧ w.cell? ⟨g, 1, none⟩ = some a1 ∧ w.cell? ⟨g, 2, none⟩ = some a2 ∧ w.cell? ⟨g, 3, none⟩ = some a3 ∧ w.cell? ⟨g, 4, none⟩ = some a4 ∧ w.cell? ⟨g, 5, none⟩ = some a5 ∧ w.cell? ⟨g, 6, none⟩ = some a6 ∧ Fr (fun _ => False) w0 w
theorem TS.next {w0 w w' : World} {g : Nat} {a0 a1 a2 a3 a4 a5 a6 : Value} (h : TS w0 g a0 a1 a2 a3 a4 a5 a6 w) (hf : Fr (fun _ => False) w w') : TS w0 g a0 a1 a2 a3 a4 a5 a6 w' := by
 obtain ⟨h0, h1, h2, h3, h4, h5, h6, hF⟩ := h
 have key : ∀ {i : Nat} {v : Value}, w.cell? ⟨g, i, none⟩ = some v → w'.cell? ⟨g, i, none⟩ = some v := fun h => (hf.cell (ltC h) (fun h => h)).trans h
 exact ⟨key h0, key h1, key h2, key h3, key h4, key h5, key h6, hF.trans hf (fun _ _ h => h)⟩
def CS.pProof (c : CS) (ps : List (List Nat)) : CS × List (List Nat) := match c with
 | .wr s => (loopW (fun c v => c.pHash n_hash v) ((CS.wr s).pInt n_hashes (4096 : Nat) (lrs (4096 : Nat) []) ps.length).1 (ps.take (min ps.length 4096)), ps)
 | .rd q => loopR (fun c v => c.pHash n_hash v) [] (min ((q.named n_hashes).go 7 (4096 : Nat)).2.1 4096) ((CS.rd q).pInt n_hashes (4096 : Nat) (lrs (4096 : Nat) []) 0).1
theorem CS.pForm_room {c : CS} {n : Nat} (h : c.room (n + 1)) (k : Nat) : (c.pForm k).room n := CS.pU8_room h _ _ _
set_option maxRecDepth 100000 in
theorem whole_Head (c : CS) (size : Nat) (root : List Nat) (x : Value) (cb b g : Nat) (F : Nat → Prop) (E : Nat → Addr) (w : World) (h : Cd w cb b F c E) (hp0 : w.cell? ⟨g, 0, none⟩ = some (.int .u32 (size : Nat))) (hp1 : w.cell? ⟨g, 1, none⟩ = some x) (hB : BVg w x root F g) (hL : ∀ i, Loc w cb F g i) (hsz : size < 4294967296) (hroom : c.room 3) :
  Calls Tryz.prog 68 #[.pointer (some ⟨cb, 0, none⟩), .iface 173 (.pointer (some ⟨g, 0, none⟩))] w fun e w' => e = .returned (.tuple #[]) ∧ ∃ F', Cd w' cb b F' ((c.pForm 4).pHead (size, root)).1 E ∧ w'.cell? ⟨g, 0, none⟩ = some (.int .u32 (((c.pForm 4).pHead (size, root)).2.1 : Nat)) ∧ ∃ x', w'.cell? ⟨g, 1, none⟩ = some x' ∧ BO w w' c x' ((c.pForm 4).pHead (size, root)).2.2 F' g ∧ Stp w w' F F' (cellsAt g 0 2) := by
 have t0 := Tryz.wh_Head
 have t1 := Tryz.wm_Head_Request
 have t2 := Tryz.wm_Head_Answer
 have t3 := Tryz.wm_Head_Event
 have HF := hid (form_any c 4 cb b F E w h (by decide) (by simp only [CS.room] at *; omega))
 have hgl := (hL 0).lt
 have hgF := (hL 0).nF
 have H := hid (And.intro hB hL)
 clear h hB hL
 go_enter Tryz.func68, Tryz.ntmps68
 go_wp2_with fail
 refine (uh HF).mono ?_
 rintro e w1 ⟨rfl, F1, hC1, hs1⟩
 have HH := hid (head_any (c.pForm 4) size root x cb b g 0 F1 E w1 hC1 ((hs1.oth g 0 hgl hgF (fun h => h)).trans hp0) ((hs1.oth g 1 hgl hgF (fun h => h)).trans hp1) ((uh H).1.stp hs1 (fun _ _ _ h => h.elim)) (fun i => ((uh H).2 i).stp hs1) hsz (CS.pForm_room hroom 4))
 have H1 := hid hs1
 clear hC1 hs1
 go_wp2_with fail
 refine (uh HH).mono ?_
 rintro e w2 ⟨rfl, F2, hC2, hc2, x2, hx2, ho2, hs2⟩
 have H2 := hid (And.intro hC2 (And.intro hc2 (And.intro hx2 (And.intro (ho2.mode (w0 := w) (c := c) (uh H1).size (by rintro q rfl; exact ⟨_, rfl⟩)) (((uh H1).mono (fun _ _ _ h => h.elim)).trans hs2 (fun _ _ _ h => h))))))
 clear hC2 hc2 hx2 ho2 hs2
 go_wp2_with fail
 go_end0
 obtain ⟨a1, a2, a3, a4, a5⟩ := uh H2
 exact ⟨rfl, F2, a1, a2, x2, a3, a4, a5⟩
set_option maxRecDepth 100000 in
theorem whole_Signed (c : CS) (size key : Nat) (root sig : List Nat) (x y : Value) (cb b g : Nat) (F : Nat → Prop) (E : Nat → Addr) (w : World) (h : Cd w cb b F c E) (hp0 : w.cell? ⟨g, 0, none⟩ = some (.int .u32 (size : Nat))) (hp1 : w.cell? ⟨g, 1, none⟩ = some x) (hp2 : w.cell? ⟨g, 2, none⟩ = some (.int .u32 (key : Nat))) (hp3 : w.cell? ⟨g, 3, none⟩ = some y) (hB : BVg w x root F g) (hB2 : BVg w y sig F g) (hL : ∀ i, Loc w cb F g i) (hsz : size < 4294967296) (hkey : key < 4294967296) (hroom : c.room 5) :
  Calls Tryz.prog 68 #[.pointer (some ⟨cb, 0, none⟩), .iface 213 (.pointer (some ⟨g, 0, none⟩))] w fun e w' => e = .returned (.tuple #[]) ∧ ∃ F', Cd w' cb b F' ((c.pForm 5).pSigned ((size, root), key, sig)).1 E ∧ w'.cell? ⟨g, 0, none⟩ = some (.int .u32 (((c.pForm 5).pSigned ((size, root), key, sig)).2.1.1 : Nat)) ∧ w'.cell? ⟨g, 2, none⟩ = some (.int .u32 (((c.pForm 5).pSigned ((size, root), key, sig)).2.2.1 : Nat)) ∧ ∃ x' y', w'.cell? ⟨g, 1, none⟩ = some x' ∧ w'.cell? ⟨g, 3, none⟩ = some y' ∧ BO w w' c x' ((c.pForm 5).pSigned ((size, root), key, sig)).2.1.2 F' g ∧ BO w w' c y' ((c.pForm 5).pSigned ((size, root), key, sig)).2.2.2 F' g ∧ Stp w w' F F' (cellsAt g 0 4) := by
 have t0 := Tryz.wh_Signed
 have t1 := Tryz.wm_Signed_Request
 have t2 := Tryz.wm_Signed_Answer
 have t3 := Tryz.wm_Signed_Event
 have t4 := Tryz.wm_Signed_Head
 have HF := hid (form_any c 5 cb b F E w h (by decide) (by simp only [CS.room] at *; omega))
 have hgl := (hL 0).lt
 have hgF := (hL 0).nF
 have H := hid (And.intro hB (And.intro hB2 hL))
 clear h hB hB2 hL
 go_enter Tryz.func68, Tryz.ntmps68
 go_wp2_with fail
 refine (uh HF).mono ?_
 rintro e w1 ⟨rfl, F1, hC1, hs1⟩
 have HH := hid (signed_any (c.pForm 5) size key root sig x y cb b g 0 F1 E w1 hC1 ((hs1.oth g 0 hgl hgF (fun h => h)).trans hp0) ((hs1.oth g 1 hgl hgF (fun h => h)).trans hp1) ((hs1.oth g 2 hgl hgF (fun h => h)).trans hp2) ((hs1.oth g 3 hgl hgF (fun h => h)).trans hp3) ((uh H).1.stp hs1 (fun _ _ _ h => h.elim)) ((uh H).2.1.stp hs1 (fun _ _ _ h => h.elim)) (fun i => ((uh H).2.2 i).stp hs1) hsz hkey (CS.pForm_room hroom 5))
 have H1 := hid hs1
 clear hC1 hs1
 go_wp2_with fail
 refine (uh HH).mono ?_
 rintro e w2 ⟨rfl, F2, hC2, hc2, hd2, x2, y2, hx2, hy2, ho2, hq2, hs2⟩
 have hm : ∀ q, c = .rd q → ∃ q', (c.pForm 5) = .rd q' := by rintro q rfl; exact ⟨_, rfl⟩
 have H2 := hid (And.intro hC2 (And.intro hc2 (And.intro hd2 (And.intro hx2 (And.intro hy2 (And.intro (ho2.mode (w0 := w) (c := c) (uh H1).size hm) (And.intro (hq2.mode (w0 := w) (c := c) (uh H1).size hm) (((uh H1).mono (fun _ _ _ h => h.elim)).trans hs2 (fun _ _ _ h => h)))))))))
 clear hC2 hc2 hd2 hx2 hy2 ho2 hq2 hs2 hm
 go_wp2_with fail
 go_end0
 obtain ⟨a1, a2, a3, a4, a5, a6, a7, a8⟩ := uh H2
 exact ⟨rfl, F2, a1, a2, a3, x2, y2, a4, a5, a6, a7, a8⟩
def Wq.out (s : Wq) : List Nat := if s.f = none then s.l else []
theorem wDone_q (s : Wq) (b : Nat) (F : Nat → Prop) (E : Nat → Addr) (w : World) (h : W w b F (s.wst E)) (hok : s.ok) (hl : s.l.length ≤ 140737488355328) :
  Calls Tryz.prog 69 #[.pointer (some ⟨b, 0, none⟩)] w fun e w' => ∃ v err, e = .returned (.tuple #[v, err]) ∧ w'.ownsRow w.heap.size 5 1 v s.out.length (cellsOf s.out) ∧ ErrV w' err (ftV s.f) E ∧ Fr (fun _ => False) w w' := by
 obtain ⟨nm, l, f⟩ := s
 cases f with
 | none =>
  refine (wDone_ok b F _ w h rfl hl).mono ?_
  rintro e w' ⟨v, rfl, hown, hf⟩
  exact ⟨v, .nilIface, rfl, hown, .inl ⟨rfl, rfl⟩, hf⟩
 | some y =>
  refine (wDone_bad b F _ y.1 y.2.1 (E y.2.2) w h rfl).mono ?_
  rintro e w' ⟨rfl, rfl⟩
  exact ⟨.slice none 0 0, _, rfl, World.ownsRow_nil _ _ _ _, .inr ⟨(hok y rfl).1, (hok y rfl).2, _, rfl, heap_alloc_new _ _⟩, box1 w _⟩
set_option maxRecDepth 100000 in
theorem put_Head (vs : Array Value) (s' : Wq) (E : Nat → Addr) (w : World) (hg : G6 w E) (hw : 9 ≤ w.heap.size)
  (hwhole : ∀ w1 cb b F, Cd w1 cb b F (.wr ⟨ByteArray.empty, [], none⟩) E → (∀ (i : Nat) v, vs[i]? = some v → w1.cell? ⟨w.heap.size, i, none⟩ = some v) → (∀ i, Loc w1 cb F w.heap.size i) → (∀ k, F k → w.heap.size < k) → Fr (fun _ => False) w w1 → Calls Tryz.prog 68 #[.pointer (some ⟨cb, 0, none⟩), .iface 173 (.pointer (some ⟨w.heap.size, 0, none⟩))] w1 fun e w' => e = .returned (.tuple #[]) ∧ ∃ F', Cd w' cb b F' (.wr s') E ∧ Stp w1 w' F F' (fun k _ => k = w.heap.size)) (hlen : s'.l.length ≤ 140737488355328) :
  Calls Tryz.prog 47 #[.agg vs] w fun e w' => ∃ v err, e = .returned (.tuple #[v, err]) ∧ w'.ownsRow w.heap.size 5 1 v s'.out.length (cellsOf s'.out) ∧ ErrV w' err (ftV s'.f) E ∧ Fr (fun _ => False) w w' := by
 have hbx := box1 w (.cells vs 25)
 have HN := hid (newWriter_any (w.alloc (.cells vs 25)) (by simp; omega))
 have H := hid (And.intro hg (And.intro hwhole hbx))
 clear hg hwhole hbx
 go_enter Tryz.func47, Tryz.ntmps47
 go_wp2_with fail
 refine (uh HN).mono ?_
 rintro e w1 ⟨rfl, hW1, hf1⟩
 have H1 := hid (And.intro hW1 hf1)
 clear hW1 hf1
 go_wp2_with fail
 obtain ⟨W2, hW2⟩ : ∃ W2, w1.alloc (.cells #[.pointer (some ⟨w.heap.size + 1, 0, none⟩), .pointer none] 143) = W2 := ⟨_, rfl⟩
 have hf12 : Fr (fun _ => False) w1 W2 := by rw [← hW2]; exact box1 _ _
 have hs0 : (w.alloc (.cells vs 25)).heap.size = w.heap.size + 1 := by simp
 have hf02 : Fr (fun _ => False) w W2 := ((uh H).2.2.trans (uh H1).2 (fun _ _ h => h)).trans hf12 (fun _ _ h => h)
 have hW1 := (uh H1).1
 rw [hs0] at hW1
 have hs1 := (uh H1).2.size
 have hlt1 := hW1.lt (w.heap.size + 1) rfl
 have hsz2 : W2.heap.size = w1.heap.size + 1 := by rw [← hW2]; simp
 have hC2 : Cd W2 w1.heap.size (w.heap.size + 1) (fun k => k = w.heap.size + 1) (.wr ⟨ByteArray.empty, [], none⟩) E := by
  refine ⟨(uh H).1.fr hf02 (fun _ h => h.elim), fun hx => by omega, fun k hk => by omega, fun k hk => by omega, by omega, ?_, ?_, W.frame hW1 hf12 (fun _ _ h => h), fun y hy => by cases hy⟩
  ·rw [← hW2, World.cell?_alloc_at _ _ _ _ rfl]; rfl
  ·rw [← hW2, World.cell?_alloc_at _ _ _ _ rfl]; rfl
 have hcs : ∀ (i : Nat) v, vs[i]? = some v → W2.cell? ⟨w.heap.size, i, none⟩ = some v := fun i v hv => by
  refine (((uh H1).2.trans hf12 (fun _ _ h => h)).cell (p := ⟨w.heap.size, i, none⟩) (by simp) (fun h => h)).trans ?_
  rw [World.cell?_alloc_at _ _ _ _ rfl]; exact hv
 have hLo : ∀ i, Loc W2 w1.heap.size (fun k => k = w.heap.size + 1) w.heap.size i := fun i =>
  ⟨(((uh H1).2.trans hf12 (fun _ _ h => h)).frozen (p := ⟨w.heap.size, i, none⟩) (by simp) (fun h => h)).trans (by simp), by omega, by omega, by omega, by omega⟩
 have HW := hid ((uh H).2.1 W2 w1.heap.size (w.heap.size + 1) _ hC2 hcs hLo (fun k hk => by omega) hf02)
 have hx2 := Nat.le_of_lt hlt1
 have H2 := hid (And.intro hf02 (And.intro hsz2 hlt1))
 clear hC2 hf02 hLo hsz2 hcs hf12 hW1 hs1 hs0 hlt1 hx2
 rw [hW2]
 clear hW2
 refine (uh HW).mono ?_
 rintro e w3 ⟨rfl, F3, hC3, hs3⟩
 have h0 : w3.cell? ⟨w1.heap.size, 0, none⟩ = some (.pointer (some ⟨w.heap.size + 1, 0, none⟩)) := hC3.c0
 have hl0 := ltC h0
 have hf03 : Fr (fun _ => False) w w3 := ((uh H2).1.mono (fun _ _ h => h)).trans hs3.fr (fun k hk hx => by rcases hx with hx | ⟨_, hx⟩ <;> omega)
 have HD := hid (wDone_q s' (w.heap.size + 1) F3 E w3 hC3.st hC3.fok hlen)
 have H3 := hid hf03
 clear hC3 hs3 hf03
 go_wp2_with fail
 refine (uh HD).mono ?_
 rintro e w4 ⟨v, err, rfl, hown, hE, hf4⟩
 have H4 := hid (And.intro (ownsRow_base hown (uh H3).size) (And.intro hE ((uh H3).trans hf4 (fun _ _ h => h))))
 clear hown hE hf4
 go_wp2_with fail
 go_ret2
 exact ⟨v, err, rfl, (uh H4).1, (uh H4).2.1, (uh H4).2.2⟩
set_option maxRecDepth 100000 in
theorem put_Signed (vs : Array Value) (s' : Wq) (E : Nat → Addr) (w : World) (hg : G6 w E) (hw : 9 ≤ w.heap.size)
  (hwhole : ∀ w1 cb b F, Cd w1 cb b F (.wr ⟨ByteArray.empty, [], none⟩) E → (∀ (i : Nat) v, vs[i]? = some v → w1.cell? ⟨w.heap.size, i, none⟩ = some v) → (∀ i, Loc w1 cb F w.heap.size i) → (∀ k, F k → w.heap.size < k) → Fr (fun _ => False) w w1 → Calls Tryz.prog 68 #[.pointer (some ⟨cb, 0, none⟩), .iface 213 (.pointer (some ⟨w.heap.size, 0, none⟩))] w1 fun e w' => e = .returned (.tuple #[]) ∧ ∃ F', Cd w' cb b F' (.wr s') E ∧ Stp w1 w' F F' (fun k _ => k = w.heap.size)) (hlen : s'.l.length ≤ 140737488355328) :
  Calls Tryz.prog 75 #[.agg vs] w fun e w' => ∃ v err, e = .returned (.tuple #[v, err]) ∧ w'.ownsRow w.heap.size 5 1 v s'.out.length (cellsOf s'.out) ∧ ErrV w' err (ftV s'.f) E ∧ Fr (fun _ => False) w w' := by
 have hbx := box1 w (.cells vs 37)
 have HN := hid (newWriter_any (w.alloc (.cells vs 37)) (by simp; omega))
 have H := hid (And.intro hg (And.intro hwhole hbx))
 clear hg hwhole hbx
 go_enter Tryz.func75, Tryz.ntmps75
 go_wp2_with fail
 refine (uh HN).mono ?_
 rintro e w1 ⟨rfl, hW1, hf1⟩
 have H1 := hid (And.intro hW1 hf1)
 clear hW1 hf1
 go_wp2_with fail
 obtain ⟨W2, hW2⟩ : ∃ W2, w1.alloc (.cells #[.pointer (some ⟨w.heap.size + 1, 0, none⟩), .pointer none] 143) = W2 := ⟨_, rfl⟩
 have hf12 : Fr (fun _ => False) w1 W2 := by rw [← hW2]; exact box1 _ _
 have hs0 : (w.alloc (.cells vs 37)).heap.size = w.heap.size + 1 := by simp
 have hf02 : Fr (fun _ => False) w W2 := ((uh H).2.2.trans (uh H1).2 (fun _ _ h => h)).trans hf12 (fun _ _ h => h)
 have hW1 := (uh H1).1
 rw [hs0] at hW1
 have hs1 := (uh H1).2.size
 have hlt1 := hW1.lt (w.heap.size + 1) rfl
 have hsz2 : W2.heap.size = w1.heap.size + 1 := by rw [← hW2]; simp
 have hC2 : Cd W2 w1.heap.size (w.heap.size + 1) (fun k => k = w.heap.size + 1) (.wr ⟨ByteArray.empty, [], none⟩) E := by
  refine ⟨(uh H).1.fr hf02 (fun _ h => h.elim), fun hx => by omega, fun k hk => by omega, fun k hk => by omega, by omega, ?_, ?_, W.frame hW1 hf12 (fun _ _ h => h), fun y hy => by cases hy⟩
  ·rw [← hW2, World.cell?_alloc_at _ _ _ _ rfl]; rfl
  ·rw [← hW2, World.cell?_alloc_at _ _ _ _ rfl]; rfl
 have hcs : ∀ (i : Nat) v, vs[i]? = some v → W2.cell? ⟨w.heap.size, i, none⟩ = some v := fun i v hv => by
  refine (((uh H1).2.trans hf12 (fun _ _ h => h)).cell (p := ⟨w.heap.size, i, none⟩) (by simp) (fun h => h)).trans ?_
  rw [World.cell?_alloc_at _ _ _ _ rfl]; exact hv
 have hLo : ∀ i, Loc W2 w1.heap.size (fun k => k = w.heap.size + 1) w.heap.size i := fun i =>
  ⟨(((uh H1).2.trans hf12 (fun _ _ h => h)).frozen (p := ⟨w.heap.size, i, none⟩) (by simp) (fun h => h)).trans (by simp), by omega, by omega, by omega, by omega⟩
 have HW := hid ((uh H).2.1 W2 w1.heap.size (w.heap.size + 1) _ hC2 hcs hLo (fun k hk => by omega) hf02)
 have hx2 := Nat.le_of_lt hlt1
 have H2 := hid (And.intro hf02 (And.intro hsz2 hlt1))
 clear hC2 hf02 hLo hsz2 hcs hf12 hW1 hs1 hs0 hlt1 hx2
 rw [hW2]
 clear hW2
 refine (uh HW).mono ?_
 rintro e w3 ⟨rfl, F3, hC3, hs3⟩
 have h0 : w3.cell? ⟨w1.heap.size, 0, none⟩ = some (.pointer (some ⟨w.heap.size + 1, 0, none⟩)) := hC3.c0
 have hl0 := ltC h0
 have hf03 : Fr (fun _ => False) w w3 := ((uh H2).1.mono (fun _ _ h => h)).trans hs3.fr (fun k hk hx => by rcases hx with hx | ⟨_, hx⟩ <;> omega)
 have HD := hid (wDone_q s' (w.heap.size + 1) F3 E w3 hC3.st hC3.fok hlen)
 have H3 := hid hf03
 clear hC3 hs3 hf03
 go_wp2_with fail
 refine (uh HD).mono ?_
 rintro e w4 ⟨v, err, rfl, hown, hE, hf4⟩
 have H4 := hid (And.intro (ownsRow_base hown (uh H3).size) (And.intro hE ((uh H3).trans hf4 (fun _ _ h => h))))
 clear hown hE hf4
 go_wp2_with fail
 go_ret2
 exact ⟨v, err, rfl, (uh H4).1, (uh H4).2.1, (uh H4).2.2⟩
set_option maxRecDepth 100000 in
theorem put_Proof (vs : Array Value) (s' : Wq) (E : Nat → Addr) (w : World) (hg : G6 w E) (hw : 9 ≤ w.heap.size)
  (hwhole : ∀ w1 cb b F, Cd w1 cb b F (.wr ⟨ByteArray.empty, [], none⟩) E → (∀ (i : Nat) v, vs[i]? = some v → w1.cell? ⟨w.heap.size, i, none⟩ = some v) → (∀ i, Loc w1 cb F w.heap.size i) → (∀ k, F k → w.heap.size < k) → Fr (fun _ => False) w w1 → Calls Tryz.prog 68 #[.pointer (some ⟨cb, 0, none⟩), .iface 215 (.pointer (some ⟨w.heap.size, 0, none⟩))] w1 fun e w' => e = .returned (.tuple #[]) ∧ ∃ F', Cd w' cb b F' (.wr s') E ∧ Stp w1 w' F F' (fun k _ => k = w.heap.size)) (hlen : s'.l.length ≤ 140737488355328) :
  Calls Tryz.prog 76 #[.agg vs] w fun e w' => ∃ v err, e = .returned (.tuple #[v, err]) ∧ w'.ownsRow w.heap.size 5 1 v s'.out.length (cellsOf s'.out) ∧ ErrV w' err (ftV s'.f) E ∧ Fr (fun _ => False) w w' := by
 have hbx := box1 w (.cells vs 40)
 have HN := hid (newWriter_any (w.alloc (.cells vs 40)) (by simp; omega))
 have H := hid (And.intro hg (And.intro hwhole hbx))
 clear hg hwhole hbx
 go_enter Tryz.func76, Tryz.ntmps76
 go_wp2_with fail
 refine (uh HN).mono ?_
 rintro e w1 ⟨rfl, hW1, hf1⟩
 have H1 := hid (And.intro hW1 hf1)
 clear hW1 hf1
 go_wp2_with fail
 obtain ⟨W2, hW2⟩ : ∃ W2, w1.alloc (.cells #[.pointer (some ⟨w.heap.size + 1, 0, none⟩), .pointer none] 143) = W2 := ⟨_, rfl⟩
 have hf12 : Fr (fun _ => False) w1 W2 := by rw [← hW2]; exact box1 _ _
 have hs0 : (w.alloc (.cells vs 40)).heap.size = w.heap.size + 1 := by simp
 have hf02 : Fr (fun _ => False) w W2 := ((uh H).2.2.trans (uh H1).2 (fun _ _ h => h)).trans hf12 (fun _ _ h => h)
 have hW1 := (uh H1).1
 rw [hs0] at hW1
 have hs1 := (uh H1).2.size
 have hlt1 := hW1.lt (w.heap.size + 1) rfl
 have hsz2 : W2.heap.size = w1.heap.size + 1 := by rw [← hW2]; simp
 have hC2 : Cd W2 w1.heap.size (w.heap.size + 1) (fun k => k = w.heap.size + 1) (.wr ⟨ByteArray.empty, [], none⟩) E := by
  refine ⟨(uh H).1.fr hf02 (fun _ h => h.elim), fun hx => by omega, fun k hk => by omega, fun k hk => by omega, by omega, ?_, ?_, W.frame hW1 hf12 (fun _ _ h => h), fun y hy => by cases hy⟩
  ·rw [← hW2, World.cell?_alloc_at _ _ _ _ rfl]; rfl
  ·rw [← hW2, World.cell?_alloc_at _ _ _ _ rfl]; rfl
 have hcs : ∀ (i : Nat) v, vs[i]? = some v → W2.cell? ⟨w.heap.size, i, none⟩ = some v := fun i v hv => by
  refine (((uh H1).2.trans hf12 (fun _ _ h => h)).cell (p := ⟨w.heap.size, i, none⟩) (by simp) (fun h => h)).trans ?_
  rw [World.cell?_alloc_at _ _ _ _ rfl]; exact hv
 have hLo : ∀ i, Loc W2 w1.heap.size (fun k => k = w.heap.size + 1) w.heap.size i := fun i =>
  ⟨(((uh H1).2.trans hf12 (fun _ _ h => h)).frozen (p := ⟨w.heap.size, i, none⟩) (by simp) (fun h => h)).trans (by simp), by omega, by omega, by omega, by omega⟩
 have HW := hid ((uh H).2.1 W2 w1.heap.size (w.heap.size + 1) _ hC2 hcs hLo (fun k hk => by omega) hf02)
 have hx2 := Nat.le_of_lt hlt1
 have H2 := hid (And.intro hf02 (And.intro hsz2 hlt1))
 clear hC2 hf02 hLo hsz2 hcs hf12 hW1 hs1 hs0 hlt1 hx2
 rw [hW2]
 clear hW2
 refine (uh HW).mono ?_
 rintro e w3 ⟨rfl, F3, hC3, hs3⟩
 have h0 : w3.cell? ⟨w1.heap.size, 0, none⟩ = some (.pointer (some ⟨w.heap.size + 1, 0, none⟩)) := hC3.c0
 have hl0 := ltC h0
 have hf03 : Fr (fun _ => False) w w3 := ((uh H2).1.mono (fun _ _ h => h)).trans hs3.fr (fun k hk hx => by rcases hx with hx | ⟨_, hx⟩ <;> omega)
 have HD := hid (wDone_q s' (w.heap.size + 1) F3 E w3 hC3.st hC3.fok hlen)
 have H3 := hid hf03
 clear hC3 hs3 hf03
 go_wp2_with fail
 refine (uh HD).mono ?_
 rintro e w4 ⟨v, err, rfl, hown, hE, hf4⟩
 have H4 := hid (And.intro (ownsRow_base hown (uh H3).size) (And.intro hE ((uh H3).trans hf4 (fun _ _ h => h))))
 clear hown hE hf4
 go_wp2_with fail
 go_ret2
 exact ⟨v, err, rfl, (uh H4).1, (uh H4).2.1, (uh H4).2.2⟩
set_option maxRecDepth 100000 in
theorem put_Request (vs : Array Value) (s' : Wq) (E : Nat → Addr) (w : World) (hg : G6 w E) (hw : 9 ≤ w.heap.size)
  (hwhole : ∀ w1 cb b F, Cd w1 cb b F (.wr ⟨ByteArray.empty, [], none⟩) E → (∀ (i : Nat) v, vs[i]? = some v → w1.cell? ⟨w.heap.size, i, none⟩ = some v) → (∀ i, Loc w1 cb F w.heap.size i) → (∀ k, F k → w.heap.size < k) → Fr (fun _ => False) w w1 → Calls Tryz.prog 68 #[.pointer (some ⟨cb, 0, none⟩), .iface 157 (.pointer (some ⟨w.heap.size, 0, none⟩))] w1 fun e w' => e = .returned (.tuple #[]) ∧ ∃ F', Cd w' cb b F' (.wr s') E ∧ Stp w1 w' F F' (fun k _ => k = w.heap.size)) (hlen : s'.l.length ≤ 140737488355328) :
  Calls Tryz.prog 29 #[.agg vs] w fun e w' => ∃ v err, e = .returned (.tuple #[v, err]) ∧ w'.ownsRow w.heap.size 5 1 v s'.out.length (cellsOf s'.out) ∧ ErrV w' err (ftV s'.f) E ∧ Fr (fun _ => False) w w' := by
 have hbx := box1 w (.cells vs 30)
 have HN := hid (newWriter_any (w.alloc (.cells vs 30)) (by simp; omega))
 have H := hid (And.intro hg (And.intro hwhole hbx))
 clear hg hwhole hbx
 go_enter Tryz.func29, Tryz.ntmps29
 go_wp2_with fail
 refine (uh HN).mono ?_
 rintro e w1 ⟨rfl, hW1, hf1⟩
 have H1 := hid (And.intro hW1 hf1)
 clear hW1 hf1
 go_wp2_with fail
 obtain ⟨W2, hW2⟩ : ∃ W2, w1.alloc (.cells #[.pointer (some ⟨w.heap.size + 1, 0, none⟩), .pointer none] 143) = W2 := ⟨_, rfl⟩
 have hf12 : Fr (fun _ => False) w1 W2 := by rw [← hW2]; exact box1 _ _
 have hs0 : (w.alloc (.cells vs 30)).heap.size = w.heap.size + 1 := by simp
 have hf02 : Fr (fun _ => False) w W2 := ((uh H).2.2.trans (uh H1).2 (fun _ _ h => h)).trans hf12 (fun _ _ h => h)
 have hW1 := (uh H1).1
 rw [hs0] at hW1
 have hs1 := (uh H1).2.size
 have hlt1 := hW1.lt (w.heap.size + 1) rfl
 have hsz2 : W2.heap.size = w1.heap.size + 1 := by rw [← hW2]; simp
 have hC2 : Cd W2 w1.heap.size (w.heap.size + 1) (fun k => k = w.heap.size + 1) (.wr ⟨ByteArray.empty, [], none⟩) E := by
  refine ⟨(uh H).1.fr hf02 (fun _ h => h.elim), fun hx => by omega, fun k hk => by omega, fun k hk => by omega, by omega, ?_, ?_, W.frame hW1 hf12 (fun _ _ h => h), fun y hy => by cases hy⟩
  ·rw [← hW2, World.cell?_alloc_at _ _ _ _ rfl]; rfl
  ·rw [← hW2, World.cell?_alloc_at _ _ _ _ rfl]; rfl
 have hcs : ∀ (i : Nat) v, vs[i]? = some v → W2.cell? ⟨w.heap.size, i, none⟩ = some v := fun i v hv => by
  refine (((uh H1).2.trans hf12 (fun _ _ h => h)).cell (p := ⟨w.heap.size, i, none⟩) (by simp) (fun h => h)).trans ?_
  rw [World.cell?_alloc_at _ _ _ _ rfl]; exact hv
 have hLo : ∀ i, Loc W2 w1.heap.size (fun k => k = w.heap.size + 1) w.heap.size i := fun i =>
  ⟨(((uh H1).2.trans hf12 (fun _ _ h => h)).frozen (p := ⟨w.heap.size, i, none⟩) (by simp) (fun h => h)).trans (by simp), by omega, by omega, by omega, by omega⟩
 have HW := hid ((uh H).2.1 W2 w1.heap.size (w.heap.size + 1) _ hC2 hcs hLo (fun k hk => by omega) hf02)
 have hx2 := Nat.le_of_lt hlt1
 have H2 := hid (And.intro hf02 (And.intro hsz2 hlt1))
 clear hC2 hf02 hLo hsz2 hcs hf12 hW1 hs1 hs0 hlt1 hx2
 rw [hW2]
 clear hW2
 refine (uh HW).mono ?_
 rintro e w3 ⟨rfl, F3, hC3, hs3⟩
 have h0 : w3.cell? ⟨w1.heap.size, 0, none⟩ = some (.pointer (some ⟨w.heap.size + 1, 0, none⟩)) := hC3.c0
 have hl0 := ltC h0
 have hf03 : Fr (fun _ => False) w w3 := ((uh H2).1.mono (fun _ _ h => h)).trans hs3.fr (fun k hk hx => by rcases hx with hx | ⟨_, hx⟩ <;> omega)
 have HD := hid (wDone_q s' (w.heap.size + 1) F3 E w3 hC3.st hC3.fok hlen)
 have H3 := hid hf03
 clear hC3 hs3 hf03
 go_wp2_with fail
 refine (uh HD).mono ?_
 rintro e w4 ⟨v, err, rfl, hown, hE, hf4⟩
 have H4 := hid (And.intro (ownsRow_base hown (uh H3).size) (And.intro hE ((uh H3).trans hf4 (fun _ _ h => h))))
 clear hown hE hf4
 go_wp2_with fail
 go_ret2
 exact ⟨v, err, rfl, (uh H4).1, (uh H4).2.1, (uh H4).2.2⟩
set_option maxRecDepth 100000 in
theorem put_Answer (vs : Array Value) (s' : Wq) (E : Nat → Addr) (w : World) (hg : G6 w E) (hw : 9 ≤ w.heap.size)
  (hwhole : ∀ w1 cb b F, Cd w1 cb b F (.wr ⟨ByteArray.empty, [], none⟩) E → (∀ (i : Nat) v, vs[i]? = some v → w1.cell? ⟨w.heap.size, i, none⟩ = some v) → (∀ i, Loc w1 cb F w.heap.size i) → (∀ k, F k → w.heap.size < k) → Fr (fun _ => False) w w1 → Calls Tryz.prog 68 #[.pointer (some ⟨cb, 0, none⟩), .iface 158 (.pointer (some ⟨w.heap.size, 0, none⟩))] w1 fun e w' => e = .returned (.tuple #[]) ∧ ∃ F', Cd w' cb b F' (.wr s') E ∧ Stp w1 w' F F' (fun k _ => k = w.heap.size)) (hlen : s'.l.length ≤ 140737488355328) :
  Calls Tryz.prog 30 #[.agg vs] w fun e w' => ∃ v err, e = .returned (.tuple #[v, err]) ∧ w'.ownsRow w.heap.size 5 1 v s'.out.length (cellsOf s'.out) ∧ ErrV w' err (ftV s'.f) E ∧ Fr (fun _ => False) w w' := by
 have hbx := box1 w (.cells vs 33)
 have HN := hid (newWriter_any (w.alloc (.cells vs 33)) (by simp; omega))
 have H := hid (And.intro hg (And.intro hwhole hbx))
 clear hg hwhole hbx
 go_enter Tryz.func30, Tryz.ntmps30
 go_wp2_with fail
 refine (uh HN).mono ?_
 rintro e w1 ⟨rfl, hW1, hf1⟩
 have H1 := hid (And.intro hW1 hf1)
 clear hW1 hf1
 go_wp2_with fail
 obtain ⟨W2, hW2⟩ : ∃ W2, w1.alloc (.cells #[.pointer (some ⟨w.heap.size + 1, 0, none⟩), .pointer none] 143) = W2 := ⟨_, rfl⟩
 have hf12 : Fr (fun _ => False) w1 W2 := by rw [← hW2]; exact box1 _ _
 have hs0 : (w.alloc (.cells vs 33)).heap.size = w.heap.size + 1 := by simp
 have hf02 : Fr (fun _ => False) w W2 := ((uh H).2.2.trans (uh H1).2 (fun _ _ h => h)).trans hf12 (fun _ _ h => h)
 have hW1 := (uh H1).1
 rw [hs0] at hW1
 have hs1 := (uh H1).2.size
 have hlt1 := hW1.lt (w.heap.size + 1) rfl
 have hsz2 : W2.heap.size = w1.heap.size + 1 := by rw [← hW2]; simp
 have hC2 : Cd W2 w1.heap.size (w.heap.size + 1) (fun k => k = w.heap.size + 1) (.wr ⟨ByteArray.empty, [], none⟩) E := by
  refine ⟨(uh H).1.fr hf02 (fun _ h => h.elim), fun hx => by omega, fun k hk => by omega, fun k hk => by omega, by omega, ?_, ?_, W.frame hW1 hf12 (fun _ _ h => h), fun y hy => by cases hy⟩
  ·rw [← hW2, World.cell?_alloc_at _ _ _ _ rfl]; rfl
  ·rw [← hW2, World.cell?_alloc_at _ _ _ _ rfl]; rfl
 have hcs : ∀ (i : Nat) v, vs[i]? = some v → W2.cell? ⟨w.heap.size, i, none⟩ = some v := fun i v hv => by
  refine (((uh H1).2.trans hf12 (fun _ _ h => h)).cell (p := ⟨w.heap.size, i, none⟩) (by simp) (fun h => h)).trans ?_
  rw [World.cell?_alloc_at _ _ _ _ rfl]; exact hv
 have hLo : ∀ i, Loc W2 w1.heap.size (fun k => k = w.heap.size + 1) w.heap.size i := fun i =>
  ⟨(((uh H1).2.trans hf12 (fun _ _ h => h)).frozen (p := ⟨w.heap.size, i, none⟩) (by simp) (fun h => h)).trans (by simp), by omega, by omega, by omega, by omega⟩
 have HW := hid ((uh H).2.1 W2 w1.heap.size (w.heap.size + 1) _ hC2 hcs hLo (fun k hk => by omega) hf02)
 have hx2 := Nat.le_of_lt hlt1
 have H2 := hid (And.intro hf02 (And.intro hsz2 hlt1))
 clear hC2 hf02 hLo hsz2 hcs hf12 hW1 hs1 hs0 hlt1 hx2
 rw [hW2]
 clear hW2
 refine (uh HW).mono ?_
 rintro e w3 ⟨rfl, F3, hC3, hs3⟩
 have h0 : w3.cell? ⟨w1.heap.size, 0, none⟩ = some (.pointer (some ⟨w.heap.size + 1, 0, none⟩)) := hC3.c0
 have hl0 := ltC h0
 have hf03 : Fr (fun _ => False) w w3 := ((uh H2).1.mono (fun _ _ h => h)).trans hs3.fr (fun k hk hx => by rcases hx with hx | ⟨_, hx⟩ <;> omega)
 have HD := hid (wDone_q s' (w.heap.size + 1) F3 E w3 hC3.st hC3.fok hlen)
 have H3 := hid hf03
 clear hC3 hs3 hf03
 go_wp2_with fail
 refine (uh HD).mono ?_
 rintro e w4 ⟨v, err, rfl, hown, hE, hf4⟩
 have H4 := hid (And.intro (ownsRow_base hown (uh H3).size) (And.intro hE ((uh H3).trans hf4 (fun _ _ h => h))))
 clear hown hE hf4
 go_wp2_with fail
 go_ret2
 exact ⟨v, err, rfl, (uh H4).1, (uh H4).2.1, (uh H4).2.2⟩
set_option maxRecDepth 100000 in
theorem put_Event (vs : Array Value) (s' : Wq) (E : Nat → Addr) (w : World) (hg : G6 w E) (hw : 9 ≤ w.heap.size)
  (hwhole : ∀ w1 cb b F, Cd w1 cb b F (.wr ⟨ByteArray.empty, [], none⟩) E → (∀ (i : Nat) v, vs[i]? = some v → w1.cell? ⟨w.heap.size, i, none⟩ = some v) → (∀ i, Loc w1 cb F w.heap.size i) → (∀ k, F k → w.heap.size < k) → Fr (fun _ => False) w w1 → Calls Tryz.prog 68 #[.pointer (some ⟨cb, 0, none⟩), .iface 210 (.pointer (some ⟨w.heap.size, 0, none⟩))] w1 fun e w' => e = .returned (.tuple #[]) ∧ ∃ F', Cd w' cb b F' (.wr s') E ∧ Stp w1 w' F F' (fun k _ => k = w.heap.size)) (hlen : s'.l.length ≤ 140737488355328) :
  Calls Tryz.prog 74 #[.agg vs] w fun e w' => ∃ v err, e = .returned (.tuple #[v, err]) ∧ w'.ownsRow w.heap.size 5 1 v s'.out.length (cellsOf s'.out) ∧ ErrV w' err (ftV s'.f) E ∧ Fr (fun _ => False) w w' := by
 have hbx := box1 w (.cells vs 35)
 have HN := hid (newWriter_any (w.alloc (.cells vs 35)) (by simp; omega))
 have H := hid (And.intro hg (And.intro hwhole hbx))
 clear hg hwhole hbx
 go_enter Tryz.func74, Tryz.ntmps74
 go_wp2_with fail
 refine (uh HN).mono ?_
 rintro e w1 ⟨rfl, hW1, hf1⟩
 have H1 := hid (And.intro hW1 hf1)
 clear hW1 hf1
 go_wp2_with fail
 obtain ⟨W2, hW2⟩ : ∃ W2, w1.alloc (.cells #[.pointer (some ⟨w.heap.size + 1, 0, none⟩), .pointer none] 143) = W2 := ⟨_, rfl⟩
 have hf12 : Fr (fun _ => False) w1 W2 := by rw [← hW2]; exact box1 _ _
 have hs0 : (w.alloc (.cells vs 35)).heap.size = w.heap.size + 1 := by simp
 have hf02 : Fr (fun _ => False) w W2 := ((uh H).2.2.trans (uh H1).2 (fun _ _ h => h)).trans hf12 (fun _ _ h => h)
 have hW1 := (uh H1).1
 rw [hs0] at hW1
 have hs1 := (uh H1).2.size
 have hlt1 := hW1.lt (w.heap.size + 1) rfl
 have hsz2 : W2.heap.size = w1.heap.size + 1 := by rw [← hW2]; simp
 have hC2 : Cd W2 w1.heap.size (w.heap.size + 1) (fun k => k = w.heap.size + 1) (.wr ⟨ByteArray.empty, [], none⟩) E := by
  refine ⟨(uh H).1.fr hf02 (fun _ h => h.elim), fun hx => by omega, fun k hk => by omega, fun k hk => by omega, by omega, ?_, ?_, W.frame hW1 hf12 (fun _ _ h => h), fun y hy => by cases hy⟩
  ·rw [← hW2, World.cell?_alloc_at _ _ _ _ rfl]; rfl
  ·rw [← hW2, World.cell?_alloc_at _ _ _ _ rfl]; rfl
 have hcs : ∀ (i : Nat) v, vs[i]? = some v → W2.cell? ⟨w.heap.size, i, none⟩ = some v := fun i v hv => by
  refine (((uh H1).2.trans hf12 (fun _ _ h => h)).cell (p := ⟨w.heap.size, i, none⟩) (by simp) (fun h => h)).trans ?_
  rw [World.cell?_alloc_at _ _ _ _ rfl]; exact hv
 have hLo : ∀ i, Loc W2 w1.heap.size (fun k => k = w.heap.size + 1) w.heap.size i := fun i =>
  ⟨(((uh H1).2.trans hf12 (fun _ _ h => h)).frozen (p := ⟨w.heap.size, i, none⟩) (by simp) (fun h => h)).trans (by simp), by omega, by omega, by omega, by omega⟩
 have HW := hid ((uh H).2.1 W2 w1.heap.size (w.heap.size + 1) _ hC2 hcs hLo (fun k hk => by omega) hf02)
 have hx2 := Nat.le_of_lt hlt1
 have H2 := hid (And.intro hf02 (And.intro hsz2 hlt1))
 clear hC2 hf02 hLo hsz2 hcs hf12 hW1 hs1 hs0 hlt1 hx2
 rw [hW2]
 clear hW2
 refine (uh HW).mono ?_
 rintro e w3 ⟨rfl, F3, hC3, hs3⟩
 have h0 : w3.cell? ⟨w1.heap.size, 0, none⟩ = some (.pointer (some ⟨w.heap.size + 1, 0, none⟩)) := hC3.c0
 have hl0 := ltC h0
 have hf03 : Fr (fun _ => False) w w3 := ((uh H2).1.mono (fun _ _ h => h)).trans hs3.fr (fun k hk hx => by rcases hx with hx | ⟨_, hx⟩ <;> omega)
 have HD := hid (wDone_q s' (w.heap.size + 1) F3 E w3 hC3.st hC3.fok hlen)
 have H3 := hid hf03
 clear hC3 hs3 hf03
 go_wp2_with fail
 refine (uh HD).mono ?_
 rintro e w4 ⟨v, err, rfl, hown, hE, hf4⟩
 have H4 := hid (And.intro (ownsRow_base hown (uh H3).size) (And.intro hE ((uh H3).trans hf4 (fun _ _ h => h))))
 clear hown hE hf4
 go_wp2_with fail
 go_ret2
 exact ⟨v, err, rfl, (uh H4).1, (uh H4).2.1, (uh H4).2.2⟩
set_option maxRecDepth 100000 in
theorem put_Message (vs : Array Value) (s' : Wq) (E : Nat → Addr) (w : World) (hg : G6 w E) (hw : 9 ≤ w.heap.size)
  (hwhole : ∀ w1 cb b F, Cd w1 cb b F (.wr ⟨ByteArray.empty, [], none⟩) E → (∀ (i : Nat) v, vs[i]? = some v → w1.cell? ⟨w.heap.size, i, none⟩ = some v) → (∀ i, Loc w1 cb F w.heap.size i) → (∀ k, F k → w.heap.size < k) → Fr (fun _ => False) w w1 → Calls Tryz.prog 68 #[.pointer (some ⟨cb, 0, none⟩), .iface 145 (.pointer (some ⟨w.heap.size, 0, none⟩))] w1 fun e w' => e = .returned (.tuple #[]) ∧ ∃ F', Cd w' cb b F' (.wr s') E ∧ Stp w1 w' F F' (fun k _ => k = w.heap.size)) (hlen : s'.l.length ≤ 140737488355328) :
  Calls Tryz.prog 26 #[.agg vs] w fun e w' => ∃ v err, e = .returned (.tuple #[v, err]) ∧ w'.ownsRow w.heap.size 5 1 v s'.out.length (cellsOf s'.out) ∧ ErrV w' err (ftV s'.f) E ∧ Fr (fun _ => False) w w' := by
 have hbx := box1 w (.cells vs 42)
 have HN := hid (newWriter_any (w.alloc (.cells vs 42)) (by simp; omega))
 have H := hid (And.intro hg (And.intro hwhole hbx))
 clear hg hwhole hbx
 go_enter Tryz.func26, Tryz.ntmps26
 go_wp2_with fail
 refine (uh HN).mono ?_
 rintro e w1 ⟨rfl, hW1, hf1⟩
 have H1 := hid (And.intro hW1 hf1)
 clear hW1 hf1
 go_wp2_with fail
 obtain ⟨W2, hW2⟩ : ∃ W2, w1.alloc (.cells #[.pointer (some ⟨w.heap.size + 1, 0, none⟩), .pointer none] 143) = W2 := ⟨_, rfl⟩
 have hf12 : Fr (fun _ => False) w1 W2 := by rw [← hW2]; exact box1 _ _
 have hs0 : (w.alloc (.cells vs 42)).heap.size = w.heap.size + 1 := by simp
 have hf02 : Fr (fun _ => False) w W2 := ((uh H).2.2.trans (uh H1).2 (fun _ _ h => h)).trans hf12 (fun _ _ h => h)
 have hW1 := (uh H1).1
 rw [hs0] at hW1
 have hs1 := (uh H1).2.size
 have hlt1 := hW1.lt (w.heap.size + 1) rfl
 have hsz2 : W2.heap.size = w1.heap.size + 1 := by rw [← hW2]; simp
 have hC2 : Cd W2 w1.heap.size (w.heap.size + 1) (fun k => k = w.heap.size + 1) (.wr ⟨ByteArray.empty, [], none⟩) E := by
  refine ⟨(uh H).1.fr hf02 (fun _ h => h.elim), fun hx => by omega, fun k hk => by omega, fun k hk => by omega, by omega, ?_, ?_, W.frame hW1 hf12 (fun _ _ h => h), fun y hy => by cases hy⟩
  ·rw [← hW2, World.cell?_alloc_at _ _ _ _ rfl]; rfl
  ·rw [← hW2, World.cell?_alloc_at _ _ _ _ rfl]; rfl
 have hcs : ∀ (i : Nat) v, vs[i]? = some v → W2.cell? ⟨w.heap.size, i, none⟩ = some v := fun i v hv => by
  refine (((uh H1).2.trans hf12 (fun _ _ h => h)).cell (p := ⟨w.heap.size, i, none⟩) (by simp) (fun h => h)).trans ?_
  rw [World.cell?_alloc_at _ _ _ _ rfl]; exact hv
 have hLo : ∀ i, Loc W2 w1.heap.size (fun k => k = w.heap.size + 1) w.heap.size i := fun i =>
  ⟨(((uh H1).2.trans hf12 (fun _ _ h => h)).frozen (p := ⟨w.heap.size, i, none⟩) (by simp) (fun h => h)).trans (by simp), by omega, by omega, by omega, by omega⟩
 have HW := hid ((uh H).2.1 W2 w1.heap.size (w.heap.size + 1) _ hC2 hcs hLo (fun k hk => by omega) hf02)
 have hx2 := Nat.le_of_lt hlt1
 have H2 := hid (And.intro hf02 (And.intro hsz2 hlt1))
 clear hC2 hf02 hLo hsz2 hcs hf12 hW1 hs1 hs0 hlt1 hx2
 rw [hW2]
 clear hW2
 refine (uh HW).mono ?_
 rintro e w3 ⟨rfl, F3, hC3, hs3⟩
 have h0 : w3.cell? ⟨w1.heap.size, 0, none⟩ = some (.pointer (some ⟨w.heap.size + 1, 0, none⟩)) := hC3.c0
 have hl0 := ltC h0
 have hf03 : Fr (fun _ => False) w w3 := ((uh H2).1.mono (fun _ _ h => h)).trans hs3.fr (fun k hk hx => by rcases hx with hx | ⟨_, hx⟩ <;> omega)
 have HD := hid (wDone_q s' (w.heap.size + 1) F3 E w3 hC3.st hC3.fok hlen)
 have H3 := hid hf03
 clear hC3 hs3 hf03
 go_wp2_with fail
 refine (uh HD).mono ?_
 rintro e w4 ⟨v, err, rfl, hown, hE, hf4⟩
 have H4 := hid (And.intro (ownsRow_base hown (uh H3).size) (And.intro hE ((uh H3).trans hf4 (fun _ _ h => h))))
 clear hown hE hf4
 go_wp2_with fail
 go_ret2
 exact ⟨v, err, rfl, (uh H4).1, (uh H4).2.1, (uh H4).2.2⟩
def Q.fin (q : Q) : ByteArray × Nat × Nat := (q.named n_end).ended
set_option maxRecDepth 100000 in
set_option maxHeartbeats 2000000 in
theorem get_Head (x : Value) (l : List Nat) (q' : Q) (Res : World → (Nat → Prop) → Nat → Array Value → Prop) (E : Nat → Addr) (w : World) (hg : G6 w E) (hw : 9 ≤ w.heap.size) (hx : Src w x l) (hl : l.length ≤ 140737488355328)
  (hst : ∀ w2 w' F F' P g vs, Res w2 F g vs → Stp w2 w' F F' P → (∀ k j, P k j → k = w.heap.size) → Res w' F' g vs)
  (hwhole : ∀ w1 cb b F g, Cd w1 cb b F (.rd ⟨ByteArray.empty, l, 0, 0, none⟩) E → w1.cell? ⟨g, 0, none⟩ = some (.int .u32 0) → w1.cell? ⟨g, 1, none⟩ = some (.slice none 0 0) → (∀ i, Loc w1 cb F g i) → (∀ k, F k → w.heap.size < k) → w.heap.size < g → Fr (fun _ => False) w w1 → Calls Tryz.prog 68 #[.pointer (some ⟨cb, 0, none⟩), .iface 173 (.pointer (some ⟨g, 0, none⟩))] w1 fun e w' => e = .returned (.tuple #[]) ∧ ∃ F', Cd w' cb b F' (.rd q') E ∧ ∃ v0 v1, w'.cell? ⟨g, 0, none⟩ = some v0 ∧ w'.cell? ⟨g, 1, none⟩ = some v1 ∧ (∀ v ∈ ([v0, v1] : List Value), v.oneCell' = true) ∧ Res w' F' g #[v0, v1] ∧ Stp w1 w' F F' (fun k _ => k = g)) :
  Calls Tryz.prog 48 #[x] w fun e w' => ∃ vs err, e = .returned (.tuple #[.agg vs, err]) ∧ ErrV w' err q'.fin E ∧ (q'.fin.2.2 ≠ 0 → vs = #[.int .u32 0, .slice none 0 0]) ∧ (q'.fin.2.2 = 0 → ∃ F' g, Res w' F' g vs ∧ w.heap.size ≤ g) ∧ Fr (fun _ => False) w w' := by
 obtain ⟨xo, xc, rfl⟩ := hx.form
 have hbx := box1 w (.cells #[.int .u32 0, .slice none 0 0] 25)
 have HN := hid (newReader_any _ l (w.alloc (.cells #[.int .u32 0, .slice none 0 0] 25)) (by simp; omega) (hx.fr hbx (fun _ _ _ _ _ h => h)) hl)
 have H := hid (And.intro hg (And.intro hst hwhole))
 have HB := hid hbx
 clear hg hst hwhole hx hbx
 go_enter Tryz.func48, Tryz.ntmps48
 go_wp2_with fail
 refine (uh HN).mono ?_
 rintro e w1 ⟨b, F, rfl, hR1, hf1', hF1'⟩
 have hf1 : Fr (fun _ => False) w w1 := (uh HB).trans hf1' (fun _ _ h => h)
 have hF1 : ∀ k, F k → w.heap.size < k := fun k hk => by have := hF1' k hk; simp at this; omega
 have hr0 : w1.cell? ⟨w.heap.size, 0, none⟩ = some (.int .u32 0) := (hf1'.cell (p := ⟨w.heap.size, 0, none⟩) (by simp) (fun h => h)).trans (by simp)
 have hrz : ∀ i, w1.frozen? ⟨w.heap.size, i, none⟩ = false := fun i => (hf1'.frozen (p := ⟨w.heap.size, i, none⟩) (by simp) (fun h => h)).trans (by simp)
 have hrb : w1.heap[w.heap.size]? = some (.cells #[.int .u32 0, .slice none 0 0] 25) := (hf1'.block w.heap.size (by simp) (fun h => h)).trans (heap_alloc_new _ _)
 have hrl := ltC hr0
 clear hf1' hF1'
 have hbl := hR1.lt b hR1.fb
 have H1 := hid (And.intro hR1 (And.intro hf1 hF1))
 clear hR1 hf1 hF1
 go_wp2_with fail
 obtain ⟨W2, hW2⟩ : ∃ W2, ((w1.alloc (.cells #[.pointer none, .pointer (some ⟨b, 0, none⟩)] 143)).alloc (.cells #[.int .u32 0, .slice none 0 0] 25)).alloc (.cells #[.int .u32 0, .slice none 0 0] 25) = W2 := ⟨_, rfl⟩
 have hf12 : Fr (fun _ => False) w1 W2 := by rw [← hW2]; exact box3 _ _ _ _
 have HF12 := hid hf12
 have hf02 := (uh H1).2.1.trans hf12 (fun _ _ h => h)
 have hsz2 : W2.heap.size = w1.heap.size + 3 := by rw [← hW2]; simp
 have hC2 : Cd W2 w1.heap.size b F (.rd ⟨ByteArray.empty, l, 0, 0, none⟩) E := by
  have hb1 := (uh H1).1.lt
  have hw1 := (uh H1).2.1.size
  refine ⟨(uh H).1.fr hf02 (fun _ h => h.elim), fun hx => by have := hb1 _ hx; omega, fun k hk => by have := hb1 k hk; omega, (uh H1).1.lo, by omega, ?_, ?_, ⟨(uh H1).1.frame hf12 (fun _ _ h => h), ⟨Nat.zero_le _, Nat.zero_le _, fun y hy => by cases hy⟩, hl⟩, trivial⟩
  ·rw [← hW2, World.cell?_alloc_past _ _ _ (by simp; omega), World.cell?_alloc_past _ _ _ (by simp), World.cell?_alloc_at _ _ _ _ (by simp)]; rfl
  ·rw [← hW2, World.cell?_alloc_past _ _ _ (by simp; omega), World.cell?_alloc_past _ _ _ (by simp), World.cell?_alloc_at _ _ _ _ (by simp)]; rfl
 have hcs : ∀ (i : Nat) v, (#[.int .u32 0, .slice none 0 0] : Array Value)[i]? = some v → W2.cell? ⟨w1.heap.size + 1, i, none⟩ = some v := fun i v hv => by
  rw [← hW2, World.cell?_alloc_past _ _ _ (by simp), World.cell?_alloc_at _ _ _ _ (by simp)]; exact hv
 have hnn : ∀ (i : Nat) v, (#[.int .u32 0, .slice none 0 0] : Array Value)[i]? = some v → W2.cell? ⟨w1.heap.size + 1 + 1, i, none⟩ = some v := fun i v hv => by
  rw [← hW2, World.cell?_alloc_at _ _ _ _ (by simp)]; exact hv
 have hLo : ∀ i, Loc W2 w1.heap.size F (w1.heap.size + 1) i := fun i => by
  have hb1 := (uh H1).1.lt
  have hw1 := (uh H1).2.1.size
  exact ⟨(((by rw [← hW2]; exact box1 _ _) : Fr (fun _ => False) ((w1.alloc (.cells #[.pointer none, .pointer (some ⟨b, 0, none⟩)] 143)).alloc (.cells #[.int .u32 0, .slice none 0 0] 25)) W2).frozen (p := ⟨w1.heap.size + 1, i, none⟩) (by simp) (fun h => h)).trans (by simp), by omega, fun hx => by have := hb1 _ hx; omega, by omega, by omega⟩
 have HW := hid ((uh H).2.2 W2 w1.heap.size b F (w1.heap.size + 1) hC2 (hcs 0 _ rfl) (hcs 1 _ rfl) hLo (uh H1).2.2 (by omega) hf02)
 have H2 := hid (And.intro hf02 (And.intro hnn hsz2))
 clear hC2 hf02 hLo hsz2 hcs hf12 hnn
 rw [hW2]
 clear hW2
 refine (uh HW).mono ?_
 rintro e w3 ⟨rfl, F3, hC3, v0, v1, hv0, hv1, hone, hRes, hs3⟩
 have hst0 : ∀ (a : Addr) (m : Mode) (W : World), (store a v0 m).run Tryz.prog W = stored Tryz.prog W a v0 m := fun _ _ _ => run_store _ _ _ _ _ (hone v0 (by simp))
 have hst1 : ∀ (a : Addr) (m : Mode) (W : World), (store a v1 m).run Tryz.prog W = stored Tryz.prog W a v1 m := fun _ _ _ => run_store _ _ _ _ _ (hone v1 (by simp))
 clear hone
 have h1 : w3.cell? ⟨w1.heap.size, 1, none⟩ = some (.pointer (some ⟨b, 0, none⟩)) := hC3.c1
 have hl1 := ltC h1
 obtain ⟨hf02, hnn, hsz2⟩ := uh H2
 have hFb : ∀ k, F k → k < w1.heap.size := (uh H1).1.lt
 have hne : ∀ i, w3.cell? ⟨w1.heap.size + 1 + 1, i, none⟩ = W2.cell? ⟨w1.heap.size + 1 + 1, i, none⟩ := fun i => hs3.oth (w1.heap.size + 1 + 1) i (by omega) (fun hx => by have := hFb _ hx; omega) (fun h => by omega)
 have hn0 := (hne 0).trans (hnn 0 _ rfl)
 have hn1 := (hne 1).trans (hnn 1 _ rfl)
 have hrF : ¬ F w.heap.size := fun hx => by have := (uh H1).2.2 _ hx; omega
 have hrb3 : w3.heap[w.heap.size]? = some (.cells #[.int .u32 0, .slice none 0 0] 25) := (hs3.block (by omega) hrF (fun i h => by omega)).trans ((uh HF12).block _ hrl (fun h => h) |>.trans hrb)
 have hf03 : Fr (fun _ => False) w w3 := hf02.trans hs3.fr (fun k hk hx => hx.elim (fun hx => by have := (uh H1).2.2 k hx; omega) (fun ⟨_, hx⟩ => by omega))
 have hst3 : R w3 b F3 (q'.rst E) ∧ q'.ok ∧ q'.all.length ≤ 140737488355328 := hC3.st
 have HD := hid (rName_step q' n_end b F3 E w3 hst3.1)
 have H3 := hid (And.intro hC3 (And.intro hs3 (And.intro hRes (And.intro hf03 (And.intro hst3.2.1 hrF)))))
 clear hC3 hs3 hRes hf03 hst3 hrF hf02 hnn hsz2 hFb hne
 go_wp2_with fail
 refine (uh HD).mono ?_
 rintro e w4 ⟨rfl, hR4, hch4⟩
 have hgF3 := (uh H3).2.1.nF (by have := (uh H2).2.2; omega) (show ¬ F (w1.heap.size + 1) from fun hx => by have := (uh H1).1.lt _ hx; omega)
 have hnF3 := (uh H3).2.1.nF (by have := (uh H2).2.2; omega) (show ¬ F (w1.heap.size + 1 + 1) from fun hx => by have := (uh H1).1.lt _ hx; omega)
 have hcF3 := (uh H3).1.nf
 have hv04 := (hch4.fr.cell (p := ⟨w1.heap.size + 1, 0, none⟩) (ltC hv0) hgF3).trans hv0
 have hv14 := (hch4.fr.cell (p := ⟨w1.heap.size + 1, 1, none⟩) (ltC hv1) hgF3).trans hv1
 have hn04 := (hch4.fr.cell (p := ⟨w1.heap.size + 1 + 1, 0, none⟩) (ltC hn0) hnF3).trans hn0
 have hn14 := (hch4.fr.cell (p := ⟨w1.heap.size + 1 + 1, 1, none⟩) (ltC hn1) hnF3).trans hn1
 have h14 : w4.cell? ⟨w1.heap.size, 1, none⟩ = some (.pointer (some ⟨b, 0, none⟩)) := (hch4.fr.cell (p := ⟨w1.heap.size, 1, none⟩) hl1 hcF3).trans h1
 have hrb4 : w4.heap[w.heap.size]? = some (.cells #[.int .u32 0, .slice none 0 0] 25) := (hch4.fr.block w.heap.size (by omega) ((uh H3).2.1.nF (by have := (uh H2).2.2; omega) (uh H3).2.2.2.2.2)).trans hrb3
 have HE := hid (done_any (q'.named n_end) b F3 E w4 hR4 (Q.named_ok (uh H3).2.2.2.2.1 n_end) ((uh H3).1.g7.fr hch4.fr (uh H3).1.lo).gl)
 have hs4 : Stp w3 w4 F3 F3 (fun _ _ => False) := Stp.of_ch hch4 _
 have hf04 : Fr (fun _ => False) w w4 := (uh H3).2.2.2.1.trans hch4.fr (fun k hk hx => by
  rcases (uh H3).2.1.new k hx with h | h
  ·have := (uh H1).2.2 k h; omega
  ·have := (uh H1).2.1.size; have := (uh H2).2.2; omega)
 have H4 := hid (And.intro hs4 hf04)
 clear hR4 hch4 hs4 hf04 hgF3 hnF3 hcF3
 go_wp2_with fail
 refine (uh HE).mono ?_
 rintro e w5 ⟨err, rfl, hEr, hf5⟩
 have hrb5 : w5.heap[w.heap.size]? = some (.cells #[.int .u32 0, .slice none 0 0] 25) := (hf5.block w.heap.size (by have := (uh H4).1.size; have := (uh H3).2.1.size; have := (uh H2).2.2; omega) (fun h => h)).trans hrb4
 have hv05 := (hf5.cell (p := ⟨w1.heap.size + 1, 0, none⟩) (ltC hv04) (fun h => h)).trans hv04
 have hn05 := (hf5.cell (p := ⟨w1.heap.size + 1 + 1, 0, none⟩) (ltC hn04) (fun h => h)).trans hn04
 have hv15 := (hf5.cell (p := ⟨w1.heap.size + 1, 1, none⟩) (ltC hv14) (fun h => h)).trans hv14
 have hn15 := (hf5.cell (p := ⟨w1.heap.size + 1 + 1, 1, none⟩) (ltC hn14) (fun h => h)).trans hn14
 have hr05 : w5.cell? ⟨w.heap.size, 0, none⟩ = some (.int .u32 0) := by simp [World.cell?, hrb5]
 have hr15 : w5.cell? ⟨w.heap.size, 1, none⟩ = some (.slice none 0 0) := by simp [World.cell?, hrb5]
 have hrz5 : ∀ i, w5.frozen? ⟨w.heap.size, i, none⟩ = false := fun i => by simp [World.frozen?, hrb5]
 have hrl5 := ltC hr05
 have hlv5 := ltC hv05
 have hln5 := ltC hn05
 have hnr1 : w1.heap.size + 1 ≠ w.heap.size := by omega
 have hnr2 : w1.heap.size + 1 + 1 ≠ w.heap.size := by omega
 have hsF : ∀ (i : Nat) v W, Fr (fun k => k = w.heap.size) w5 W → Fr (fun k => k = w.heap.size) w5 (W.setCell ⟨w.heap.size, i, none⟩ v) := fun i v W h => h.setCell (.inl rfl) v
 have H5 := hid (And.intro hf5 (hEr))
 rcases hEr with ⟨h0, rfl⟩ | ⟨h1', h7, fb, rfl, hb⟩
 ·clear hf5
  go_wp2_with fail
  refine bodyPost_ret (v := .tuple #[.agg #[v0, v1], .nilIface]) (by simp [results, Tryz.results48, go_sem, hr05, hr15]) rfl ?_
  have hfin : q'.fin.2.2 = 0 := h0
  refine ⟨_, _, rfl, .inl ⟨hfin, rfl⟩, fun h => absurd hfin h, fun _ => ⟨F3, w1.heap.size + 1, ?_, by omega⟩, ?_⟩
  ·have hR5 := (uh H).2.1 _ _ _ _ _ _ _ ((uh H).2.1 _ _ _ _ _ _ _ (uh H3).2.2.1 (uh H4).1 (fun _ _ h => h.elim)) (Stp.of_fr (uh H5).1 F3 (fun _ _ => False)) (fun _ _ h => h.elim)
   exact (uh H).2.1 _ _ _ _ _ _ _ hR5 (((Stp.refl w5 F3 (fun k _ => k = w.heap.size)).trans (Stp.set w.heap.size 0 _) (fun k j _ h => h.1)).trans (Stp.set w.heap.size 1 _) (fun k j _ h => h.1)) (fun k j h => h)
  ·exact (((uh H4).2.trans (uh H5).1 (fun _ _ h => h)).setCell (.inr (Nat.le_refl _)) _).setCell (.inr (Nat.le_refl _)) _
 ·have hfb : fb ≠ w.heap.size := fun e => by rw [e, hrb5] at hb; simp [faultObj] at hb
  have HB5 := hid hb
  clear hf5 hb
  go_wp2_with fail
  refine bodyPost_ret (v := .tuple #[.agg #[.int .u32 0, .slice none 0 0], .iface 78 (.pointer (some ⟨fb, 0, none⟩))]) (by simp [results, Tryz.results48, go_sem, hr05, hr15]) rfl ?_
  have hfin : q'.fin.2.2 ≠ 0 := fun e => by have : 1 ≤ q'.fin.2.2 := h1'; omega
  refine ⟨_, _, rfl, .inr ⟨h1', h7, fb, rfl, ?_⟩, fun _ => rfl, fun h => absurd h hfin, ?_⟩
  ·rw [Below.heap_setCell _ _ _ _ hfb, Below.heap_setCell _ _ _ _ hfb]
   exact uh HB5
  ·exact (((uh H4).2.trans (uh H5).1 (fun _ _ h => h)).setCell (.inr (Nat.le_refl _)) _).setCell (.inr (Nat.le_refl _)) _
end Go.Proofs.YtdcopmkgmbiikaaGreatDoor
