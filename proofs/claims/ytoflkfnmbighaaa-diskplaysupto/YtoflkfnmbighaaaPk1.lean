import Derived.Test.YtoflkfnmbighaaaDma
import Derived.Test.YtoflkfnmbighaaaDmb
import Derived.Test.YtoflkfnmbighaaaDmf
namespace Go.Proofs.Ytoflkfnmbighaaa
open Go.RowKit Go.ChangeShapes Go.WideShapes Go.Maps

theorem sum_set : ∀ (l : List Nat) (k a b : Nat), l[k]? = some b → (l.set k a).sum + b = l.sum + a
  | [], k, a, b, h => by simp at h
  | x :: r, 0, a, b, h => by simp at h; subst h; simp; omega
  | x :: r, k + 1, a, b, h => by
    have := sum_set r k a b (by simpa using h)
    simp
    omega
theorem set_self {α : Type} : ∀ (l : List α) (k : Nat) (a : α), l[k]? = some a → l.set k a = l
  | [], k, a, h => by simp at h
  | x :: r, 0, a, h => by simp at h; subst h; rfl
  | x :: r, k + 1, a, h => by rw [List.set_cons_succ, set_self r k a (by simpa using h)]
theorem names_set {fs : List RFl} {k : Nat} {f : RFl} (hk : fs[k]? = some f) (rb : List RB) {β : Type} (g : ByteArray → β) : (fs.set k ⟨f.name, rb⟩).map (fun x => g x.name) = fs.map fun x => g x.name := by
  rw [List.map_set]
  exact set_self _ _ _ (by rw [List.getElem?_map, hk]; rfl)
theorem nodup_at {fs : List RFl} (h : (fs.map fun f => nm f.name).Nodup) {i j : Nat} {f g : RFl} (hi : fs[i]? = some f) (hj : fs[j]? = some g) (e : nm f.name = nm g.name) : i = j := by
  have h1 : (fs.map fun f => nm f.name)[i]? = some (nm f.name) := by rw [List.getElem?_map, hi]; rfl
  have h2 : (fs.map fun f => nm f.name)[j]? = some (nm g.name) := by rw [List.getElem?_map, hj]; rfl
  rw [e] at h1
  exact (List.getElem?_inj (List.getElem?_eq_some_iff.1 h1).1 h).mp (h1.trans h2.symm)
theorem mem_set {fs : List RFl} (h : (fs.map fun f => nm f.name).Nodup) {k : Nat} {f y g : RFl} (hk : fs[k]? = some f) (hg : g ∈ fs.set k y) : g = y ∨ (g ∈ fs ∧ nm g.name ≠ nm f.name) := by
  obtain ⟨i, hi⟩ := List.mem_iff_getElem?.mp hg
  rw [List.getElem?_set] at hi
  by_cases e : k = i
  · subst e
    simp at hi
    exact .inl hi.2.symm
  · rw [if_neg e] at hi
    exact .inr ⟨List.mem_of_getElem? hi, fun e2 => e (nodup_at h hk hi e2.symm)⟩
theorem pdl_lt {f : FM} {rb : List RB} {wr born : Nat} (h : FR f rb wr born) {p : Nat × Nat} (hp : p ∈ pdl f rb) : p.1 < born ∧ p.2 ≤ wr := by
  have h1 := List.of_mem_zip hp
  refine ⟨?_, h.wb _ h1.2⟩
  obtain ⟨x, hx, e⟩ := List.mem_map.mp h1.1
  rw [← e]
  exact h.bb x hx
theorem FR.more {f : FM} {rb : List RB} {wr born wr' born' : Nat} (h : FR f rb wr born) (h1 : wr ≤ wr') (h2 : born ≤ born') : FR f rb wr' born' :=
  ⟨h.b, h.sl, h.s, h.pl, h.rise, fun x hx => Nat.lt_of_lt_of_le (h.bb x hx) h2, fun x hx => Nat.le_trans (h.wb x hx) h1⟩
/-- One file turned. -/
theorem Rel.file {s : DM} {r : RD} (h : Rel s r) {k : Nat} {f : RFl} (hk : r.fs[k]? = some f) (f' : FM) (rb' : List RB) (s' : DM) (r' : RD)
    (hD : s'.D = s.D) (hF : s'.F = fun j => if j = nm f.name then f' else s.F j) (hlim : s'.limit = s.limit) (hw : s.writes ≤ s'.writes) (hl0 : 0 ≤ s'.left ∧ s'.left < 9223372036854775808) (ht0 : 0 ≤ s'.tear ∧ s'.tear < 9223372036854775808)
    (hub : s'.used + f.rb.length = s.used + rb'.length) (hul : s'.used ≤ s'.limit) (hb : r.born ≤ r'.born) (hFR : FR f' rb' s'.writes r'.born) (htot : f'.ps.length + s.writes ≤ (s.F (nm f.name)).ps.length + s'.writes)
    (hp : ∃ j N, pdl f' rb' = (pdl (s.F (nm f.name)) f.rb).take j ++ N ∧ ∀ p ∈ N, r.born ≤ p.1 ∧ p.2 = s.writes + 1)
    (r1 : r'.limit = r.limit) (r2 : r'.writes = s'.writes) (r3 : r'.fs = r.fs.set k ⟨f.name, rb'⟩) (r4 : r'.armed = s'.left) (r5 : s'.left ≠ 0 → r'.tear = s'.tear) (r6 : r'.off = s'.off) (r7 : r'.full = s'.full) : Rel s' r' := by
  have hfm : f ∈ r.fs := List.mem_of_getElem? hk
  obtain ⟨j, N, hpe, hN⟩ := hp
  have hold : ∀ g ∈ r.fs, ∀ p ∈ pdl (s.F (nm g.name)) g.rb, p.1 < r.born ∧ p.2 ≤ s.writes := fun g hg p hpp => pdl_lt (h.F g hg) hpp
  have hcase : ∀ g ∈ r'.fs, (∀ p ∈ pdl (s'.F (nm g.name)) g.rb, (∃ g0 ∈ r.fs, nm g0.name = nm g.name ∧ p ∈ pdl (s.F (nm g0.name)) g0.rb) ∨ (nm g.name = nm f.name ∧ r.born ≤ p.1 ∧ p.2 = s.writes + 1)) := by
    intro g hg p hpp
    rw [r3] at hg
    rw [hF] at hpp
    rcases mem_set h.nd hk hg with rfl | ⟨hg1, hg2⟩
    · simp only [if_true] at hpp
      rw [hpe] at hpp
      rcases List.mem_append.mp hpp with h1 | h1
      · exact .inl ⟨f, hfm, rfl, List.mem_of_mem_take h1⟩
      · exact .inr ⟨rfl, hN p h1⟩
    · simp only [if_neg hg2] at hpp
      exact .inl ⟨g, hg1, rfl, hpp⟩
  refine ⟨by rw [r1, h.lim, hlim], by rw [hlim]; exact h.lim1, r2, r6, r7, r4, r5, hl0, ht0, by rw [hD]; exact h.map, ?_, ?_, ?_, ?_, ?_, ?_, ?_, hul, ?_⟩
  · rw [hD, r3, names_set hk rb' (fun n => Lit.string (nm n))]; exact h.keys
  · rw [r3, names_set hk rb' nm]; exact h.nd
  · intro g hg
    rw [r3] at hg
    rcases mem_set h.nd hk hg with rfl | ⟨hg1, _⟩
    · exact h.nl f hfm
    · exact h.nl g hg1
  · rw [r3, List.length_set]; exact h.n256
  · intro g hg
    rw [r3] at hg
    rw [hF]
    rcases mem_set h.nd hk hg with rfl | ⟨hg1, hg2⟩
    · simpa using hFR
    · simp only [if_neg hg2]
      exact (h.F g hg1).more hw hb
  · intro a ha b hbm p hpp q hq
    rcases hcase a ha p hpp with ⟨a0, ha0, ea, hp0⟩ | ⟨ea, hp1, hp2⟩
    · rcases hcase b hbm q hq with ⟨b0, hb0, eb, hq0⟩ | ⟨eb, hq1, hq2⟩
      · have := h.com a0 ha0 b0 hb0 p hp0 q hq0
        rw [ea, eb] at this
        exact this
      · have := hold a0 ha0 p hp0
        exact ⟨fun _ => by omega, fun e => by omega, fun e => by omega⟩
    · rcases hcase b hbm q hq with ⟨b0, hb0, eb, hq0⟩ | ⟨eb, hq1, hq2⟩
      · have := hold b0 hb0 q hq0
        exact ⟨fun _ => by omega, fun e => by omega, fun e => by omega⟩
      · exact ⟨fun _ => by omega, fun e => by rw [ea, eb], fun e => by rw [ea, eb]⟩
  · have e : r'.fs.map (fun f => f.rb.length) = (r.fs.map fun f => f.rb.length).set k rb'.length := by rw [r3, List.map_set]
    have := sum_set (r.fs.map fun f => f.rb.length) k rb'.length f.rb.length (by rw [List.getElem?_map, hk]; rfl)
    have hu := h.used
    rw [e]
    omega
  · have e : r'.fs.map (fun g => (s'.F (nm g.name)).ps.length) = (r.fs.map fun g => (s.F (nm g.name)).ps.length).set k f'.ps.length := by
      rw [r3, hF]
      apply List.ext_getElem?
      intro i
      rw [List.getElem?_map, List.getElem?_set, List.getElem?_set]
      by_cases e : k = i
      · subst e
        have hlt := (List.getElem?_eq_some_iff.1 hk).1
        simp [hlt]
      · rw [if_neg e, if_neg e, List.getElem?_map]
        cases hi : r.fs[i]? with
        | none => rfl
        | some g =>
          have : nm g.name ≠ nm f.name := fun e2 => e (nodup_at h.nd hk hi e2.symm)
          simp [this]
    have := sum_set (r.fs.map fun g => (s.F (nm g.name)).ps.length) k f'.ps.length (s.F (nm f.name)).ps.length (by rw [List.getElem?_map, hk]; rfl)
    have ht := h.tot
    rw [e]
    omega
/-- Numbers turned. -/
theorem Rel.nums {s : DM} {r : RD} (h : Rel s r) (s' : DM) (r' : RD) (hD : s'.D = s.D) (hF : s'.F = s.F) (hlim : s'.limit = s.limit) (hw : s'.writes = s.writes) (hu : s'.used = s.used) (hl0 : 0 ≤ s'.left ∧ s'.left < 9223372036854775808) (ht0 : 0 ≤ s'.tear ∧ s'.tear < 9223372036854775808)
    (r1 : r'.limit = r.limit) (r2 : r'.writes = r.writes) (r3 : r'.fs = r.fs) (r4 : r'.armed = s'.left) (r5 : s'.left ≠ 0 → r'.tear = s'.tear) (r6 : r'.off = s'.off) (r7 : r'.full = s'.full) (r8 : r'.born = r.born) : Rel s' r' := by
  refine ⟨by rw [r1, h.lim, hlim], by rw [hlim]; exact h.lim1, by rw [r2, hw]; exact h.wr, r6, r7, r4, r5, hl0, ht0, by rw [hD]; exact h.map, by rw [hD, r3]; exact h.keys, by rw [r3]; exact h.nd, by rw [r3]; exact h.nl, by rw [r3]; exact h.n256, by rw [r3, hF, r8, hw]; exact h.F, by rw [r3, hF]; exact h.com, by rw [r3, hu]; exact h.used, by rw [hu, hlim]; exact h.ul, by rw [r3, hF, hw]; exact h.tot⟩
theorem insert_perm {H : Type} (x : Lit × DataW H) : ∀ l : List (Lit × DataW H), (DataW.insert x l).Perm (x :: l)
  | [] => List.Perm.refl _
  | y :: r => by
    unfold DataW.insert
    split
    · exact List.Perm.refl _
    · exact ((insert_perm x r).cons y).trans (List.Perm.swap x y r)
theorem ents_put {D : DataW Unit} (hm : IsMap D) (k : Lit) (v : DataW Unit) (hh : Maps.has D k = false) : ((ents (D.put k v)).map Prod.fst).Perm ((ents D).map Prod.fst ++ [k]) := by
  obtain ⟨es, rfl⟩ := hm
  have e : es.filter (fun p => !p.1.sameKey k) = es := by
    rw [has_eq] at hh
    rw [List.filter_eq_self]
    intro p hp
    have := List.any_eq_false.mp hh p hp
    simpa using this
  have h1 : ents ((DataW.map es).put k v) = DataW.insert (k, v) es := by simp only [DataW.put, ents, e]
  rw [h1]
  have h2 := (insert_perm (k, v) es).map Prod.fst
  refine h2.trans ?_
  rw [List.map_cons]
  exact (List.perm_append_singleton k (es.map Prod.fst)).symm
theorem Rel.made {s : DM} {r : RD} (h : Rel s r) (name : ByteArray) (fb : Nat) (hn0 : 1 ≤ name.size) (hn : name.size ≤ 64) (hh : Maps.has s.D (.string (nm name)) = false) (h256 : r.fs.length < 256) : Rel (s.made (nm name) fb) { r with fs := r.fs ++ [⟨name, []⟩] } := by
  have hno : ∀ f ∈ r.fs, nm f.name ≠ nm name := fun f hf e => by
    have := (has_keys h (nm name)).mpr ⟨f, hf, e⟩
    rw [hh] at this
    cases this
  have hF0 : (s.made (nm name) fb).F (nm name) = ⟨[], 0, []⟩ := by simp [DM.made]
  have hF1 : ∀ f ∈ r.fs, (s.made (nm name) fb).F (nm f.name) = s.F (nm f.name) := fun f hf => by simp [DM.made, hno f hf]
  refine ⟨h.lim, h.lim1, h.wr, h.off, h.full, h.arm, h.tear, h.l0, h.t0, h.map.put _ _, ?_, ?_, ?_, by simp; omega, ?_, ?_, ?_, h.ul, ?_⟩
  · refine (ents_put h.map _ _ hh).trans ?_
    simp only [List.map_append, List.map_cons, List.map_nil]
    exact h.keys.append_right _
  · simp only [List.map_append, List.map_cons, List.map_nil]
    rw [List.nodup_append]
    refine ⟨h.nd, by simp, ?_⟩
    intro a ha b hb e
    simp at hb
    subst hb
    subst e
    obtain ⟨f, hf, e⟩ := List.mem_map.mp ha
    exact hno f hf e
  · intro f hf
    rcases List.mem_append.mp hf with hf | hf
    · exact h.nl f hf
    · simp at hf; subst hf; exact ⟨hn0, hn⟩
  · intro f hf
    rcases List.mem_append.mp hf with hf | hf
    · rw [hF1 f hf]; exact h.F f hf
    · simp at hf; subst hf
      rw [hF0]
      exact ⟨rfl, Nat.le_refl _, fun i hi => by simp at hi, rfl, by simp, by simp, by simp [exps]⟩
  · have hz : pdl ((s.made (nm name) fb).F (nm name)) [] = [] := by rw [hF0]; rfl
    intro a ha b hb p hp q hq
    rcases List.mem_append.mp ha with ha | ha
    · rcases List.mem_append.mp hb with hb | hb
      · rw [hF1 a ha] at hp
        rw [hF1 b hb] at hq
        exact h.com a ha b hb p hp q hq
      · simp at hb; subst hb; rw [hz] at hq; cases hq
    · simp at ha; subst ha; rw [hz] at hp; cases hp
  · simp only [List.map_append, List.sum_append]
    have := h.used
    simp [DM.made]
    exact this
  · simp only [List.map_append, List.sum_append, List.map_cons, List.map_nil, hF0]
    rw [List.map_congr_left (g := fun f => (s.F (nm f.name)).ps.length) (fun f hf => by rw [hF1 f hf])]
    have := h.tot
    simpa [DM.made] using this
end Go.Proofs.Ytoflkfnmbighaaa

namespace Go.Proofs.Ytoflkfnmbighaaa
open Go.RowKit Go.ChangeShapes Go.WideShapes Go.Maps

set_option maxRecDepth 100000 in
/-- find. -/
theorem gfind_any (r : RD) (ao : Option Addr) (c : Nat) (Fs : List GF) (T : Nat → Prop) (n : ByteArray) (W : World) (h : GAt W (.slice ao Fs.length c) Fs T) (hl : Fs.length ≤ 256) :
    Calls Try.prog 53 #[r.agg (.slice ao Fs.length c), .string n] W fun e w' => e = .returned (.int .i64 (fixO (nix (Fs.map Prod.fst) n))) ∧ Fr (fun _ => False) W w' := by
  obtain ⟨w, hw⟩ : ∃ w, w = W.alloc (.cells (r.cells (.slice ao Fs.length c)) 30) := ⟨_, rfl⟩
  have hf : Fr (fun _ => False) W w := by rw [hw]; exact box1 _ _
  have HX := hide (And.intro (h.fr0 hf) hf)
  have hb : w.heap[W.heap.size]? = some (.cells (r.cells (.slice ao Fs.length c)) 30) := by rw [hw]; exact heap_alloc_new _ _
  have c3 : w.cell? ⟨W.heap.size, 3, none⟩ = some (.slice ao Fs.length c) := cell_of_blk hb rfl
  unfold RD.agg
  unfold RD.cells at hw
  clear h hf hb
  go_enter Try.func53, Try.ntmps53
  go_wp2_with fail
  rw [← hw]
  clear hw
  go_loopw [5] (fun iv wr => ∃ j : Nat, j ≤ Fs.length ∧ iv = .int .i64 (j : Nat) ∧ (∀ i (hi : i < (Fs.map Prod.fst).length), i < j → ¬ nm (Fs.map Prod.fst)[i].name = nm n) ∧ wr = w) (fun iv _ => Fs.length - (intOf iv).toNat)
  case atStart => exact ⟨0, Nat.zero_le _, rfl, fun i _ h => by omega, rfl⟩
  case round =>
    obtain ⟨j, hj, rfl, hno, rfl⟩ := hrel
    have HF := hide hno
    clear hno
    by_cases hlt : j < Fs.length
    · obtain ⟨g, rfl, _, c0, _, _⟩ := (unhide HX).1.at_ (List.getElem?_eq_getElem hlt)
      have hk0 : (Fs.map Prod.fst)[j]'(by simpa using hlt) = Fs[j].1 := by simp
      obtain ⟨a, ha⟩ : ∃ a, Fs[j].1.name = a := ⟨_, rfl⟩
      rw [ha] at c0
      have HA := hide (And.intro ha hk0)
      clear ha hk0
      have hkl : (j : Int) < (Fs.length : Int) := by omega
      cases hk : (a.toList == n.toList) with
      | true =>
        have hk1 : nm a = nm n := by rw [tl_eq] at hk; simpa using hk
        have HE := hide (nix_at (fs := Fs.map Prod.fst) (x := n) (j := j) (by simpa using hlt) (unhide HF) (by rw [(unhide HA).2, (unhide HA).1]; exact hk1))
        clear hk1
        go_wp2_with fail
        go_ret
        exact ⟨by rw [unhide HE]; rfl, (unhide HX).2⟩
      | false =>
        have HK := hide (show ¬ nm a = nm n by rw [tl_eq] at hk; simpa using hk)
        go_wp2_with fail
        go_roundw
        case rel =>
          refine ⟨j + 1, hlt, by go_num, fun i hi h => ?_, trivial⟩
          rcases Nat.lt_or_ge i j with h1 | h1
          · exact (unhide HF) i hi h1
          · obtain rfl : i = j := by omega
            rw [(unhide HA).2, (unhide HA).1]; exact unhide HK
        case measure => simp [intOf]; omega
    · have HE := hide (nix_no (fs := Fs.map Prod.fst) (x := n) (fun i hi => (unhide HF) i hi (by simp at hi; omega)))
      have hkl : ¬ (j : Int) < (Fs.length : Int) := by omega
      go_wp2_with fail
      go_ret
      exact ⟨by rw [unhide HE]; rfl, (unhide HX).2⟩
/-- What Found tells. -/
def RD.found (r : RD) (n : ByteArray) : Int × Int := if r.off then (-1, 6) else match nix r.fs n with
  | some k => ((k : Int), 0)
  | none => (-1, 15)
theorem fixO_neg {o : Option Nat} : (fixO o < 0) = (o = none) := by
  cases o with
  | none => simp [fixO]
  | some k => simp [fixO]
/-- Found of a disk that is on. -/
theorem RD.found_on {r : RD} (h : r.off = false) (n : ByteArray) : r.found n = (fixO (nix r.fs n), if fixO (nix r.fs n) < 0 then 15 else 0) := by
  unfold RD.found
  rw [h]
  cases nix r.fs n with
  | none => rfl
  | some k =>
    have : ¬ ((k : Int) < 0) := by omega
    simp [fixO, this]
set_option maxRecDepth 100000 in
/-- Found. -/
theorem gfound_any (r : RD) (ao : Option Addr) (c : Nat) (Fs : List GF) (T : Nat → Prop) (n : ByteArray) (W : World) (h : GAt W (.slice ao Fs.length c) Fs T) (hfs : Fs.map Prod.fst = r.fs) (hl : Fs.length ≤ 256) :
    Calls Try.prog 21 #[r.agg (.slice ao Fs.length c), .string n] W fun e w' => e = .returned (.tuple #[.int .i64 (r.found n).1, .int .i64 (r.found n).2]) ∧ Fr (fun _ => False) W w' := by
  cases ho : r.off with
  | true =>
    have hF : r.found n = (-1, 6) := by simp [RD.found, ho]
    rw [hF]
    obtain ⟨li, bo, wr, fs, ar, te, off, fu⟩ := r
    dsimp only at ho
    subst ho
    unfold RD.agg
    clear h hfs hF
    go_enter Try.func21, Try.ntmps21
    go_wp2_with fail
    go_ret2
    exact ⟨rfl, box1 _ _⟩
  | false =>
    rw [RD.found_on ho]
    obtain ⟨w, hw⟩ : ∃ w, w = W.alloc (.cells (r.cells (.slice ao Fs.length c)) 30) := ⟨_, rfl⟩
    have hf : Fr (fun _ => False) W w := by rw [hw]; exact box1 _ _
    have HX := hide (And.intro (gfind_any r ao c Fs T n w (h.fr0 hf) hl) hf)
    rw [hfs] at HX
    obtain ⟨li, bo, wr, fs, ar, te, off, fu⟩ := r
    dsimp only at ho HX ⊢
    subst ho
    unfold RD.cells at hw
    dsimp only at hw
    unfold RD.agg at HX ⊢
    dsimp only at HX ⊢
    have hm : fixO (nix fs n) < 0 → fixO (nix fs n) = -1 := by cases nix fs n <;> simp [fixO]
    generalize fixO (nix fs n) = z at *
    clear h hfs hf
    by_cases hz : z < 0
    · have hz1 := hm hz
      subst hz1
      clear hm
      go_enter Try.func21, Try.ntmps21
      go_wp2_with fail
      rw [← hw]
      refine (unhide HX).1.mono ?_
      rintro e w2 ⟨rfl, hf2⟩
      have HF := hide ((unhide HX).2.trans hf2 (fun _ _ h => h))
      clear hf2
      go_wp2_with fail
      go_ret2
      exact ⟨rfl, unhide HF⟩
    · clear hm
      go_enter Try.func21, Try.ntmps21
      go_wp2_with fail
      rw [← hw]
      refine (unhide HX).1.mono ?_
      rintro e w2 ⟨rfl, hf2⟩
      have HF := hide ((unhide HX).2.trans hf2 (fun _ _ h => h))
      clear hf2
      go_wp2_with fail
      go_ret2
      exact ⟨rfl, unhide HF⟩
end Go.Proofs.Ytoflkfnmbighaaa

namespace Go.Proofs.Ytoflkfnmbighaaa
open Go.RowKit Go.ChangeShapes Go.WideShapes Go.Maps

def zero8 : Array Value := #[.int .i64 0, .int .i64 0, .int .i64 0, .slice none 0 0, .int .i64 0, .int .i64 0, .bool false, .bool false]
/-- A whole disk stored into the answer's box. -/
theorem gbox {V : World} {b : Nat} (hb : V.heap[b]? = some (.cells zero8 30)) (r : RD) (ao : Option Addr) (n c : Nat) :
    ∃ V', (Instr.storeAt 30 (.pointer (some ⟨b, 0, none⟩)) (r.agg (.slice ao n c))).run Try.prog V = .ok () V' ∧ V'.rangeAt b 0 (r.cells (.slice ao n c)).toList ∧ Fr (fun k => k = b) V V' := by
  obtain ⟨V', h1, h2, h3⟩ := st_all (P := Try.prog) (ty := 30) (W := V) (g := b) (t := 30) zero8.toList (r.cells (.slice ao n c)).toList (by simpa using hb) rfl (by kernel_rfl) (by simp [RD.cells, Value.oneCell'])
  exact ⟨V', by simpa [RD.agg, RD.cells] using h1, range_of_block h2, h3⟩
theorem cells_of8 {V : World} {b t : Nat} {a0 a1 a2 a3 a4 a5 a6 a7 : Value} (h : V.heap[b]? = some (.cells #[a0, a1, a2, a3, a4, a5, a6, a7] t)) :
    V.cell? ⟨b, 0, none⟩ = some a0 ∧ V.cell? ⟨b, 1, none⟩ = some a1 ∧ V.cell? ⟨b, 2, none⟩ = some a2 ∧ V.cell? ⟨b, 3, none⟩ = some a3 ∧ V.cell? ⟨b, 4, none⟩ = some a4 ∧ V.cell? ⟨b, 5, none⟩ = some a5 ∧ V.cell? ⟨b, 6, none⟩ = some a6 ∧ V.cell? ⟨b, 7, none⟩ = some a7 ∧ ∀ i, V.frozen? ⟨b, i, none⟩ = false :=
  ⟨cell_of_blk h rfl, cell_of_blk h rfl, cell_of_blk h rfl, cell_of_blk h rfl, cell_of_blk h rfl, cell_of_blk h rfl, cell_of_blk h rfl, cell_of_blk h rfl, fun i => by simp [World.frozen?, h]⟩
/-- The boxes of a call: the disk's, the answer's. -/
structure B2 (W V : World) (cs : Array Value) : Prop where
  d : V.heap[W.heap.size]? = some (.cells cs 30)
  z : V.heap[W.heap.size + 1]? = some (.cells zero8 30)
  f : Fr (fun _ => False) W V
theorem B2.new (W : World) (cs : Array Value) : B2 W ((W.alloc (.cells cs 30)).alloc (.cells zero8 30)) cs := by
  refine ⟨?_, ?_, box2 _ _ _⟩
  · rw [Below.heap_alloc _ _ _ (by simp)]; exact heap_alloc_new W _
  · have := heap_alloc_new (W.alloc (.cells cs 30)) (.cells zero8 30)
    simpa using this
theorem B2.fr0 {W V V' : World} {cs : Array Value} (h : B2 W V cs) (hf : Fr (fun _ => False) V V') : B2 W V' cs :=
  ⟨(hf.block _ (lt_of_block h.d) (fun h => h)).trans h.d, (hf.block _ (lt_of_block h.z) (fun h => h)).trans h.z, h.f.trans hf (fun _ _ h => h)⟩
/-- Arm. -/
def RD.armR (r : RD) (n b : Int) : RD × Int := if r.off then (r, 6) else if n < 1 ∨ b < 0 then (r, 1) else ({ r with armed := n, tear := b }, 0)
set_option maxRecDepth 100000 in
theorem garm_any (r : RD) (ao : Option Addr) (m c : Nat) (n b : Int) (W : World) :
    Calls Try.prog 45 #[r.agg (.slice ao m c), .int .i64 n, .int .i64 b] W fun e w' => e = .returned (.tuple #[(r.armR n b).1.agg (.slice ao m c), .int .i64 (r.armR n b).2]) ∧ Fr (fun _ => False) W w' := by
  obtain ⟨w, hw⟩ : ∃ w, w = (W.alloc (.cells ((r.armR n b).1.cells (.slice ao m c)) 30)).alloc (.cells zero8 30) := ⟨_, rfl⟩
  have hB : B2 W w ((r.armR n b).1.cells (.slice ao m c)) := by rw [hw]; exact B2.new _ _
  obtain ⟨V, hrV, hgV, hfV⟩ := gbox hB.z (r.armR n b).1 ao m c
  have HE := hide (And.intro hgV (hB.f.trans hfV (fun i hi e => by have e' : i = W.heap.size + 1 := e; omega)))
  clear hgV hfV hB
  unfold RD.cells zero8 at hw
  obtain ⟨li, bo, wr, fs, ar, te, off, fu⟩ := r
  cases off with
  | true =>
    simp only [RD.armR, if_true] at hw hrV HE ⊢
    simp only [RD.agg] at hrV ⊢
    rw [hw] at hrV
    have HV := hide hrV
    clear hrV hw
    go_enter Try.func45, Try.ntmps45
    go_wp2_with (refine wpList_stN rfl 30 _ _ rfl _ _ rfl rfl (unhide HV) ?_)
    (try simp only [Exit.inBlock, Exit.then])
    refine bodyPost_ret (results_cellt rfl _ _ (W.heap.size + 1) 0 _ _ _ rfl rfl (unhide HE).1 Try.underlying30 rfl (by kernel_rfl)) rfl ?_
    exact ⟨rfl, (unhide HE).2⟩
  | false =>
    by_cases h1 : n < 1
    · simp only [RD.armR, h1, true_or, if_true, Bool.false_eq_true, if_false] at hw hrV HE ⊢
      simp only [RD.agg] at hrV ⊢
      rw [hw] at hrV
      have HV := hide hrV
      clear hrV hw
      go_enter Try.func45, Try.ntmps45
      go_wp2_with (refine wpList_stN rfl 30 _ _ rfl _ _ rfl rfl (unhide HV) ?_)
      (try simp only [Exit.inBlock, Exit.then])
      refine bodyPost_ret (results_cellt rfl _ _ (W.heap.size + 1) 0 _ _ _ rfl rfl (unhide HE).1 Try.underlying30 rfl (by kernel_rfl)) rfl ?_
      exact ⟨rfl, (unhide HE).2⟩
    · by_cases h2 : b < 0
      · simp only [RD.armR, h1, h2, or_true, if_true, Bool.false_eq_true, if_false] at hw hrV HE ⊢
        simp only [RD.agg] at hrV ⊢
        rw [hw] at hrV
        have HV := hide hrV
        clear hrV hw
        go_enter Try.func45, Try.ntmps45
        go_wp2_with (refine wpList_stN rfl 30 _ _ rfl _ _ rfl rfl (unhide HV) ?_)
        (try simp only [Exit.inBlock, Exit.then])
        refine bodyPost_ret (results_cellt rfl _ _ (W.heap.size + 1) 0 _ _ _ rfl rfl (unhide HE).1 Try.underlying30 rfl (by kernel_rfl)) rfl ?_
        exact ⟨rfl, (unhide HE).2⟩
      · simp only [RD.armR, h1, h2, or_self, Bool.false_eq_true, if_false] at hw hrV HE ⊢
        simp only [RD.agg] at hrV ⊢
        rw [hw] at hrV
        have HV := hide hrV
        clear hrV hw
        go_enter Try.func45, Try.ntmps45
        go_wp2_with (refine wpList_stN rfl 30 _ _ rfl _ _ rfl rfl (unhide HV) ?_)
        (try simp only [Exit.inBlock, Exit.then])
        refine bodyPost_ret (results_cellt rfl _ _ (W.heap.size + 1) 0 _ _ _ rfl rfl (unhide HE).1 Try.underlying30 rfl (by kernel_rfl)) rfl ?_
        exact ⟨rfl, (unhide HE).2⟩
end Go.Proofs.Ytoflkfnmbighaaa

namespace Go.Proofs.Ytoflkfnmbighaaa
open Go.RowKit Go.ChangeShapes Go.WideShapes Go.Maps

theorem row_blk {W : World} {base e size n g : Nat} {v : Value} {xs : List Value} (h : W.ownsRow base e size v n xs) (hg : v.ownBlock = some g) {e' size' n' base' : Nat} {v' : Value} {xs' : List Value} (h' : W.ownsRow base' e' size' v' n' xs') (hne : e ≠ e') : v'.ownBlock ≠ some g := fun hg' => by
  obtain ⟨c, h1⟩ := own_blk h hg
  obtain ⟨c', h2⟩ := own_blk h' hg'
  rw [h1] at h2
  simp at h2
  exact hne h2.2
/-- One file turned: its bytes, its slice. -/
theorem GAt.file {W W' : World} {v : Value} {Fs : List GF} {T : Nat → Prop} (h : GAt W v Fs T) {K : Nat} {x y : GF} (hx : Fs[K]? = some x) (hf : Fr (fun g => v.ownBlock = some g ∨ x.2.ownBlock = some g) W W')
    (hv : W'.ownsRow 0 60 2 v Fs.length (gcells (Fs.set K y))) (hb : W'.ownsRow 0 89 3 y.2 y.1.rb.length (bcells y.1.rb)) (hy : ∀ g, y.2.ownBlock = some g → x.2.ownBlock = some g ∨ W.heap.size ≤ g) :
    GAt W' v (Fs.set K y) (fun g => T g ∨ y.2.ownBlock = some g) := by
  have hlt := (List.getElem?_eq_some_iff.1 hx).1
  have hget : ∀ (i : Nat) (z : GF), (Fs.set K y)[i]? = some z → (i = K ∧ z = y) ∨ (i ≠ K ∧ Fs[i]? = some z) := fun i z hz => by
    rw [List.getElem?_set] at hz
    by_cases e : K = i
    · subst e
      simp [hlt] at hz
      exact .inl ⟨rfl, hz.symm⟩
    · rw [if_neg e] at hz
      exact .inr ⟨fun e2 => e e2.symm, hz⟩
  have hxm := List.mem_of_getElem? hx
  refine ⟨by rw [List.length_set]; exact hv, fun z hz => ?_, fun i j a b ha hb' hij g hg hg' => ?_, fun g hg => .inl (h.tr g hg), fun z hz g hg => ?_, fun g hg => ?_⟩
  · obtain ⟨i, hi⟩ := List.mem_iff_getElem?.mp hz
    rcases hget i z hi with ⟨_, rfl⟩ | ⟨hne, hz'⟩
    · exact hb
    · refine ownsRow_of_block (h.b z (List.mem_of_getElem? hz')) (fun g hg => hf.block g (h.lt g (h.tb z (List.mem_of_getElem? hz') g hg)) ?_)
      rintro (e | e)
      · exact row_blk h.row e (h.b z (List.mem_of_getElem? hz')) (by decide) hg
      · exact h.ap K i x z hx hz' (fun e => hne e.symm) g e hg
  · rcases hget i a ha with ⟨rfl, rfl⟩ | ⟨hia, ha'⟩
    · rcases hget j b hb' with ⟨rfl, rfl⟩ | ⟨hjb, hb2⟩
      · exact hij rfl
      · rcases hy g hg with e | e
        · exact h.ap i j x b hx hb2 hij g e hg'
        · have := h.lt g (h.tb b (List.mem_of_getElem? hb2) g hg'); omega
    · rcases hget j b hb' with ⟨rfl, rfl⟩ | ⟨hjb, hb2⟩
      · rcases hy g hg' with e | e
        · exact h.ap i j a x ha' hx hij g hg e
        · have := h.lt g (h.tb a (List.mem_of_getElem? ha') g hg); omega
      · exact h.ap i j a b ha' hb2 hij g hg hg'
  · obtain ⟨i, hi⟩ := List.mem_iff_getElem?.mp hz
    rcases hget i z hi with ⟨_, rfl⟩ | ⟨hne, hz'⟩
    · exact .inr hg
    · exact .inl (h.tb z (List.mem_of_getElem? hz') g hg)
  · rcases hg with hg | hg
    · exact Nat.lt_of_lt_of_le (h.lt g hg) hf.size
    · exact (hb.lt g hg).2
theorem gcells_same {Fs : List GF} {K : Nat} {x : GF} (hx : Fs[K]? = some x) (rb : List RB) : gcells (Fs.set K (⟨x.1.name, rb⟩, x.2)) = gcells Fs := by
  rw [← gcells_set Fs K x hx x.2 _ (by simp [fc2])]
  exact set_self _ _ _ (gcells_at hx).2
/-- A file's bytes turned where they lie. -/
theorem GAt.bytes {W W' : World} {v : Value} {Fs : List GF} {T : Nat → Prop} (h : GAt W v Fs T) {K : Nat} {x : GF} (hx : Fs[K]? = some x) (rb : List RB) (hf : Fr (fun g => x.2.ownBlock = some g) W W')
    (hb : W'.ownsRow 0 89 3 x.2 rb.length (bcells rb)) : GAt W' v (Fs.set K (⟨x.1.name, rb⟩, x.2)) T := by
  have hv : W'.ownsRow 0 60 2 v Fs.length (gcells Fs) := ownsRow_of_block h.row (fun g hg => hf.block g (h.lt g (h.tr g hg)) (fun e => row_blk h.row hg (h.b x (List.mem_of_getElem? hx)) (by decide) e))
  have h2 := h.file (y := (⟨x.1.name, rb⟩, x.2)) hx (hf.mono (fun _ _ e => .inr e)) (by rw [gcells_same hx]; exact hv) hb (fun g hg => .inl hg)
  exact ⟨h2.row, h2.b, h2.ap, h.tr, fun z hz g hg => (h2.tb z hz g hg).elim id (fun e => h.tb x (List.mem_of_getElem? hx) g e), fun g hg => Nat.lt_of_lt_of_le (h.lt g hg) hf.size⟩
theorem lit_by (w : World) (x : RB) : (w.alloc (.cells #[.int .u8 ((x.v % 256 : Nat) : Int), .int .i64 (x.b : Nat), .bool x.s] 89)).ownsRow 0 89 3 (.slice (some ⟨w.heap.size, 0, none⟩) 1 1) [x].length (bcells [x]) :=
  ⟨by simp [bcells, bc3], .inr ⟨w.heap.size, 1, _, rfl, Nat.zero_le _, heap_alloc_new w _, Nat.le_refl _, by decide, rfl, by simp [bcells, bc3]⟩⟩
/-- append of bytes, one or all of a slice. -/
theorem app_by (w : World) (base b2 : Nat) (v x : Value) (A B : List RB) (h : w.ownsRow base 89 3 v A.length (bcells A)) (hx : w.ownsRow b2 89 3 x B.length (bcells B)) (hl : A.length + B.length ≤ 3000000) (hb0 : base ≤ w.heap.size) :
    ∃ ao cap w', (Builtin.append_ #[58, 58] 58 #[v, x]).run Try.prog w = .ok (.slice ao (A.length + B.length) cap) w' ∧ w'.ownsRow base 89 3 (.slice ao (A.length + B.length) cap) (A.length + B.length) (bcells (A ++ B)) ∧ Fr (fun g => v.ownBlock = some g) w w' ∧ ∀ g, (Value.slice ao (A.length + B.length) cap).ownBlock = some g → v.ownBlock = some g ∨ w.heap.size ≤ g := by
  obtain ⟨i0, hi, hz0, hz1, hz2⟩ := info_parts Try.infoBy
  have hx2 := hx.2
  rcases hx2 with ⟨rfl, e⟩ | ⟨g, cap, cur, rfl, _⟩
  · obtain rfl := List.eq_nil_of_length_eq_zero e
    have hr := run_append_owned_none (P := Try.prog) w base 58 58 89 i0 3 Try.underlying58 hi v A.length (bcells A) h
    obtain ⟨ao, cap, rfl⟩ := own_formX h
    exact ⟨ao, cap, w, by simpa using hr, by simpa using h, Fr.refl _ _, fun g hg => .inl hg⟩
  · obtain ⟨v', w', hr, h2, h3, h4, h5⟩ := run_append_own_at (P := Try.prog) w base 58 58 89 i0 (.agg #[.int .u8 0, .int .i64 0, .bool false]) 3 24 Try.underlying58 hi hz0 hz1 hz2 rfl (by decide) v A.length (bcells A) h ⟨g, 0, none⟩ B.length cap (bcells B) (bcells_len B) (fun j u hu => hx.cells (g := g) rfl j u hu) (bcells_one B) (by simp only [maxLen]; omega) (by omega) hb0
    obtain ⟨ao, cap', rfl⟩ := own_formX h2
    refine ⟨ao, cap', w', hr, by rw [bcells_app]; exact h2, (Fr.refl _ _).grown h3 (fun g hg => .inl hg), fun g hg => ?_⟩
    rcases h5 with e | e
    · exact .inl (e ▸ hg)
    · rw [e] at hg
      cases hg
      exact .inr (Nat.le_refl _)
theorem make_by (x : Nat) (w : World) (hx : x ≤ 3000000) : ∃ w', (Instr.makeSlice 58 (.int .i64 0) (.int .i64 (x : Int))).run Try.prog w = .ok (.slice (some ⟨w.heap.size, 0, none⟩) 0 x) w' ∧ w'.ownsRow w.heap.size 89 3 (.slice (some ⟨w.heap.size, 0, none⟩) 0 x) 0 [] ∧ Fr (fun _ => False) w w' := by
  obtain ⟨i, hi, hz, hs, hb⟩ := info_parts Try.infoBy
  obtain ⟨w', hr, ho, hg⟩ := run_makeSlice_owned (P := Try.prog) w w.heap.size 58 89 i (.agg #[.int .u8 0, .int .i64 0, .bool false]) 3 Try.underlying58 hi hz hs .i64 .i64 x (by omega) (by rw [hb]; omega) (by simp only [maxLen]; omega) (Nat.le_refl _)
  exact ⟨w', hr, ho, (Fr.refl _ _).grown hg (fun k hk => by cases hk)⟩
theorem lit_fi (w : World) (x : GF) : (w.alloc (.cells #[.string x.1.name, x.2] 60)).ownsRow 0 60 2 (.slice (some ⟨w.heap.size, 0, none⟩) 1 1) [x].length (gcells [x]) :=
  ⟨by simp [gcells, fc2], .inr ⟨w.heap.size, 1, _, rfl, Nat.zero_le _, heap_alloc_new w _, Nat.le_refl _, by decide, rfl, by simp [gcells, fc2]⟩⟩
/-- append of a file. -/
theorem app_fi (w : World) (base : Nat) (v : Value) (A : List GF) (y : GF) (h : w.ownsRow base 60 2 v A.length (gcells A)) (hy : y.2.oneCell' = true) (hl : A.length ≤ 1000) (hb0 : base ≤ w.heap.size) :
    ∃ ao cap w', (Builtin.append_ #[28, 28] 28 #[v, .slice (some ⟨w.heap.size, 0, none⟩) 1 1]).run Try.prog (w.alloc (.cells #[.string y.1.name, y.2] 60)) = .ok (.slice ao (A.length + 1) cap) w' ∧ w'.ownsRow base 60 2 (.slice ao (A.length + 1) cap) (A.length + 1) (gcells (A ++ [y])) ∧ Fr (fun g => v.ownBlock = some g) w w' ∧ ∀ g, (Value.slice ao (A.length + 1) cap).ownBlock = some g → v.ownBlock = some g ∨ w.heap.size ≤ g := by
  obtain ⟨i0, hi, hz0, hz1, hz2⟩ := info_parts Try.infoFi
  have h1 : (w.alloc (.cells #[.string y.1.name, y.2] 60)).ownsRow base 60 2 v A.length (gcells A) := ownsRow_of_block h (fun k hk => Below.heap_alloc _ _ _ (h.lt k hk).2)
  have hx := lit_fi w y
  obtain ⟨v', w', hr, h2, h3, h4, h5⟩ := run_append_own_at (P := Try.prog) _ base 28 28 60 i0 (.agg #[.string ⟨#[]⟩, .slice none 0 0]) 2 40 Try.underlying28 hi hz0 hz1 hz2 rfl (by decide) v A.length (gcells A) h1 ⟨w.heap.size, 0, none⟩ 1 1 (gcells [y]) (by simp [gcells, fc2]) (fun j u hu => hx.cells (g := w.heap.size) rfl j u hu) (fun u hu => by simp [gcells, fc2] at hu; rcases hu with rfl | rfl; exact rfl; exact hy) (by simp only [maxLen]; omega) (by omega) (by simp; omega)
  obtain ⟨ao, cap', rfl⟩ := own_formX h2
  refine ⟨ao, cap', w', hr, by rw [gcells_app]; exact h2, ((box1 w _).mono (fun _ _ h => h.elim)).grown h3 (fun g hg => .inl hg), fun g hg => ?_⟩
  rcases h5 with e | e
  · exact .inl (e ▸ hg)
  · rw [e] at hg
    cases hg
    exact .inr (by simp)
end Go.Proofs.Ytoflkfnmbighaaa

namespace Go.Proofs.Ytoflkfnmbighaaa
open Go.RowKit Go.ChangeShapes Go.WideShapes Go.Maps

set_option maxHeartbeats 1000000 in
set_option maxRecDepth 100000 in
/-- Remove, refused. -/
theorem gRemove_no (r : RD) (ao : Option Addr) (c : Nat) (Fs : List GF) (T : Nat → Prop) (n : ByteArray)  (W : World) (h : GAt W (.slice ao Fs.length c) Fs T) (hfs : Fs.map Prod.fst = r.fs) (hl : Fs.length ≤ 256) (hne : ¬ (r.found n).2 = 0) :
    Calls Try.prog 43 #[r.agg (.slice ao Fs.length c), .string n] W fun e w' => e = .returned (.tuple #[r.agg (.slice ao Fs.length c), .int .i64 (r.found n).2]) ∧ Fr (fun _ => False) W w' := by
  obtain ⟨w, hw⟩ : ∃ w, w = (W.alloc (.cells (r.cells (.slice ao Fs.length c)) 30)).alloc (.cells zero8 30) := ⟨_, rfl⟩
  have hB : B2 W w (r.cells (.slice ao Fs.length c)) := by rw [hw]; exact B2.new _ _
  have HC := hide (gfound_any r ao c Fs T n w (h.fr0 hB.f) hfs hl)
  have HB := hide hB
  clear hB h hfs
  obtain ⟨li, bo, wr, fs, ar, te, off, fu⟩ := r
  generalize RD.found _ n = kc at *
  obtain ⟨k, e0⟩ := kc
  dsimp only at hne HC ⊢
  unfold RD.agg at HC ⊢
  unfold RD.cells zero8 at hw
  go_enter Try.func43, Try.ntmps43
  go_wp2_with fail
  rw [← hw]
  refine (unhide HC).mono ?_
  rintro e' w2 ⟨rfl, hf2⟩
  have hB2 := (unhide HB).fr0 hf2
  obtain ⟨c0, c1, c2, c3, c4, c5, c6, c7, _⟩ := cells_of8 hB2.d
  obtain ⟨V, hrV, hgV, hfV⟩ := gbox hB2.z ⟨li, bo, wr, fs, ar, te, off, fu⟩ ao Fs.length c
  have HE := hide (And.intro hgV (hB2.f.trans hfV (fun i hi e => by have e' : i = W.heap.size + 1 := e; omega)))
  unfold RD.agg at hrV
  have HV := hide hrV
  clear hrV hgV hfV hB2 hf2 HB HC hw
  go_wp2_with (refine wpList_stN rfl 30 _ _ rfl _ _ rfl rfl (unhide HV) ?_)
  (try simp only [Exit.inBlock, Exit.then])
  refine bodyPost_ret (results_cellt rfl _ _ (W.heap.size + 1) 0 _ _ _ rfl rfl (unhide HE).1 Try.underlying30 rfl (by kernel_rfl)) rfl ?_
  exact ⟨rfl, (unhide HE).2⟩
set_option maxHeartbeats 1000000 in
set_option maxRecDepth 100000 in
/-- Cut, refused. -/
theorem gCut_no (r : RD) (ao : Option Addr) (c : Nat) (Fs : List GF) (T : Nat → Prop) (n : ByteArray) (z : Int) (W : World) (h : GAt W (.slice ao Fs.length c) Fs T) (hfs : Fs.map Prod.fst = r.fs) (hl : Fs.length ≤ 256) (hne : ¬ (r.found n).2 = 0) :
    Calls Try.prog 41 #[r.agg (.slice ao Fs.length c), .string n, .int .i64 z] W fun e w' => e = .returned (.tuple #[r.agg (.slice ao Fs.length c), .int .i64 (r.found n).2]) ∧ Fr (fun _ => False) W w' := by
  obtain ⟨w, hw⟩ : ∃ w, w = (W.alloc (.cells (r.cells (.slice ao Fs.length c)) 30)).alloc (.cells zero8 30) := ⟨_, rfl⟩
  have hB : B2 W w (r.cells (.slice ao Fs.length c)) := by rw [hw]; exact B2.new _ _
  have HC := hide (gfound_any r ao c Fs T n w (h.fr0 hB.f) hfs hl)
  have HB := hide hB
  clear hB h hfs
  obtain ⟨li, bo, wr, fs, ar, te, off, fu⟩ := r
  generalize RD.found _ n = kc at *
  obtain ⟨k, e0⟩ := kc
  dsimp only at hne HC ⊢
  unfold RD.agg at HC ⊢
  unfold RD.cells zero8 at hw
  go_enter Try.func41, Try.ntmps41
  go_wp2_with fail
  rw [← hw]
  refine (unhide HC).mono ?_
  rintro e' w2 ⟨rfl, hf2⟩
  have hB2 := (unhide HB).fr0 hf2
  obtain ⟨c0, c1, c2, c3, c4, c5, c6, c7, _⟩ := cells_of8 hB2.d
  obtain ⟨V, hrV, hgV, hfV⟩ := gbox hB2.z ⟨li, bo, wr, fs, ar, te, off, fu⟩ ao Fs.length c
  have HE := hide (And.intro hgV (hB2.f.trans hfV (fun i hi e => by have e' : i = W.heap.size + 1 := e; omega)))
  unfold RD.agg at hrV
  have HV := hide hrV
  clear hrV hgV hfV hB2 hf2 HB HC hw
  go_wp2_with (refine wpList_stN rfl 30 _ _ rfl _ _ rfl rfl (unhide HV) ?_)
  (try simp only [Exit.inBlock, Exit.then])
  refine bodyPost_ret (results_cellt rfl _ _ (W.heap.size + 1) 0 _ _ _ rfl rfl (unhide HE).1 Try.underlying30 rfl (by kernel_rfl)) rfl ?_
  exact ⟨rfl, (unhide HE).2⟩
set_option maxHeartbeats 1000000 in
set_option maxRecDepth 100000 in
/-- Append, refused. -/
theorem gAppend_no (r : RD) (ao : Option Addr) (c : Nat) (Fs : List GF) (T : Nat → Prop) (n : ByteArray) (x : Value) (W : World) (h : GAt W (.slice ao Fs.length c) Fs T) (hfs : Fs.map Prod.fst = r.fs) (hl : Fs.length ≤ 256) (hne : ¬ (r.found n).2 = 0) :
    Calls Try.prog 37 #[r.agg (.slice ao Fs.length c), .string n, x] W fun e w' => e = .returned (.tuple #[r.agg (.slice ao Fs.length c), .int .i64 (r.found n).2]) ∧ Fr (fun _ => False) W w' := by
  obtain ⟨w, hw⟩ : ∃ w, w = (W.alloc (.cells (r.cells (.slice ao Fs.length c)) 30)).alloc (.cells zero8 30) := ⟨_, rfl⟩
  have hB : B2 W w (r.cells (.slice ao Fs.length c)) := by rw [hw]; exact B2.new _ _
  have HC := hide (gfound_any r ao c Fs T n w (h.fr0 hB.f) hfs hl)
  have HB := hide hB
  clear hB h hfs
  obtain ⟨li, bo, wr, fs, ar, te, off, fu⟩ := r
  generalize RD.found _ n = kc at *
  obtain ⟨k, e0⟩ := kc
  dsimp only at hne HC ⊢
  unfold RD.agg at HC ⊢
  unfold RD.cells zero8 at hw
  go_enter Try.func37, Try.ntmps37
  go_wp2_with fail
  rw [← hw]
  refine (unhide HC).mono ?_
  rintro e' w2 ⟨rfl, hf2⟩
  have hB2 := (unhide HB).fr0 hf2
  obtain ⟨c0, c1, c2, c3, c4, c5, c6, c7, _⟩ := cells_of8 hB2.d
  obtain ⟨V, hrV, hgV, hfV⟩ := gbox hB2.z ⟨li, bo, wr, fs, ar, te, off, fu⟩ ao Fs.length c
  have HE := hide (And.intro hgV (hB2.f.trans hfV (fun i hi e => by have e' : i = W.heap.size + 1 := e; omega)))
  unfold RD.agg at hrV
  have HV := hide hrV
  clear hrV hgV hfV hB2 hf2 HB HC hw
  go_wp2_with (refine wpList_stN rfl 30 _ _ rfl _ _ rfl rfl (unhide HV) ?_)
  (try simp only [Exit.inBlock, Exit.then])
  refine bodyPost_ret (results_cellt rfl _ _ (W.heap.size + 1) 0 _ _ _ rfl rfl (unhide HE).1 Try.underlying30 rfl (by kernel_rfl)) rfl ?_
  exact ⟨rfl, (unhide HE).2⟩
set_option maxHeartbeats 1000000 in
set_option maxRecDepth 100000 in
/-- Sync, refused. -/
theorem gSync_no (r : RD) (ao : Option Addr) (c : Nat) (Fs : List GF) (T : Nat → Prop) (n : ByteArray)  (W : World) (h : GAt W (.slice ao Fs.length c) Fs T) (hfs : Fs.map Prod.fst = r.fs) (hl : Fs.length ≤ 256) (hne : ¬ (r.found n).2 = 0) :
    Calls Try.prog 39 #[r.agg (.slice ao Fs.length c), .string n] W fun e w' => e = .returned (.tuple #[r.agg (.slice ao Fs.length c), .int .i64 (r.found n).2]) ∧ Fr (fun _ => False) W w' := by
  obtain ⟨w, hw⟩ : ∃ w, w = (W.alloc (.cells (r.cells (.slice ao Fs.length c)) 30)).alloc (.cells zero8 30) := ⟨_, rfl⟩
  have hB : B2 W w (r.cells (.slice ao Fs.length c)) := by rw [hw]; exact B2.new _ _
  have HC := hide (gfound_any r ao c Fs T n w (h.fr0 hB.f) hfs hl)
  have HB := hide hB
  clear hB h hfs
  obtain ⟨li, bo, wr, fs, ar, te, off, fu⟩ := r
  generalize RD.found _ n = kc at *
  obtain ⟨k, e0⟩ := kc
  dsimp only at hne HC ⊢
  unfold RD.agg at HC ⊢
  unfold RD.cells zero8 at hw
  go_enter Try.func39, Try.ntmps39
  go_wp2_with fail
  rw [← hw]
  refine (unhide HC).mono ?_
  rintro e' w2 ⟨rfl, hf2⟩
  have hB2 := (unhide HB).fr0 hf2
  obtain ⟨c0, c1, c2, c3, c4, c5, c6, c7, _⟩ := cells_of8 hB2.d
  obtain ⟨V, hrV, hgV, hfV⟩ := gbox hB2.z ⟨li, bo, wr, fs, ar, te, off, fu⟩ ao Fs.length c
  have HE := hide (And.intro hgV (hB2.f.trans hfV (fun i hi e => by have e' : i = W.heap.size + 1 := e; omega)))
  unfold RD.agg at hrV
  have HV := hide hrV
  clear hrV hgV hfV hB2 hf2 HB HC hw
  go_wp2_with (refine wpList_stN rfl 30 _ _ rfl _ _ rfl rfl (unhide HV) ?_)
  (try simp only [Exit.inBlock, Exit.then])
  refine bodyPost_ret (results_cellt rfl _ _ (W.heap.size + 1) 0 _ _ _ rfl rfl (unhide HE).1 Try.underlying30 rfl (by kernel_rfl)) rfl ?_
  exact ⟨rfl, (unhide HE).2⟩
set_option maxHeartbeats 1000000 in
set_option maxRecDepth 100000 in
/-- Turn, refused. -/
theorem gTurn_no (r : RD) (ao : Option Addr) (c : Nat) (Fs : List GF) (T : Nat → Prop) (n : ByteArray) (z b : Int) (W : World) (h : GAt W (.slice ao Fs.length c) Fs T) (hfs : Fs.map Prod.fst = r.fs) (hl : Fs.length ≤ 256) (hne : ¬ (r.found n).2 = 0) :
    Calls Try.prog 47 #[r.agg (.slice ao Fs.length c), .string n, .int .i64 z, .int .u64 b] W fun e w' => e = .returned (.tuple #[r.agg (.slice ao Fs.length c), .int .i64 (r.found n).2]) ∧ Fr (fun _ => False) W w' := by
  obtain ⟨w, hw⟩ : ∃ w, w = (W.alloc (.cells (r.cells (.slice ao Fs.length c)) 30)).alloc (.cells zero8 30) := ⟨_, rfl⟩
  have hB : B2 W w (r.cells (.slice ao Fs.length c)) := by rw [hw]; exact B2.new _ _
  have HC := hide (gfound_any r ao c Fs T n w (h.fr0 hB.f) hfs hl)
  have HB := hide hB
  clear hB h hfs
  obtain ⟨li, bo, wr, fs, ar, te, off, fu⟩ := r
  generalize RD.found _ n = kc at *
  obtain ⟨k, e0⟩ := kc
  dsimp only at hne HC ⊢
  unfold RD.agg at HC ⊢
  unfold RD.cells zero8 at hw
  go_enter Try.func47, Try.ntmps47
  go_wp2_with fail
  rw [← hw]
  refine (unhide HC).mono ?_
  rintro e' w2 ⟨rfl, hf2⟩
  have hB2 := (unhide HB).fr0 hf2
  obtain ⟨c0, c1, c2, c3, c4, c5, c6, c7, _⟩ := cells_of8 hB2.d
  obtain ⟨V, hrV, hgV, hfV⟩ := gbox hB2.z ⟨li, bo, wr, fs, ar, te, off, fu⟩ ao Fs.length c
  have HE := hide (And.intro hgV (hB2.f.trans hfV (fun i hi e => by have e' : i = W.heap.size + 1 := e; omega)))
  unfold RD.agg at hrV
  have HV := hide hrV
  clear hrV hgV hfV hB2 hf2 HB HC hw
  go_wp2_with (refine wpList_stN rfl 30 _ _ rfl _ _ rfl rfl (unhide HV) ?_)
  (try simp only [Exit.inBlock, Exit.then])
  refine bodyPost_ret (results_cellt rfl _ _ (W.heap.size + 1) 0 _ _ _ rfl rfl (unhide HE).1 Try.underlying30 rfl (by kernel_rfl)) rfl ?_
  exact ⟨rfl, (unhide HE).2⟩
end Go.Proofs.Ytoflkfnmbighaaa

namespace Go.Proofs.Ytoflkfnmbighaaa
open Go.RowKit Go.ChangeShapes Go.WideShapes Go.Maps

theorem bcells_take (l : List RB) (z : Nat) : bcells (l.take z) = (bcells l).take (z * 3) := by
  induction l generalizing z with
  | nil => simp [bcells]
  | cons a l ih =>
    rcases z with _ | z
    · simp [bcells]
    · rw [List.take_succ_cons, bcells_cons, bcells_cons, ih, show (z + 1) * 3 = (bc3 a).length + z * 3 by simp [bc3]; omega, List.take_length_add_append]
theorem own_len {bo : Option Addr} {n m c c' k : Nat} (h : (Value.slice bo n c).ownBlock = some k) : (Value.slice bo m c').ownBlock = some k := by
  cases bo with
  | none => cases h
  | some a => exact h
theorem own_take {W : World} {base e size n z bc : Nat} {bo : Option Addr} {ys : List Value} (h : W.ownsRow base e size (.slice bo n bc) n ys) (hz : z ≤ n) : W.ownsRow base e size (.slice bo z bc) z (ys.take (z * size)) := by
  rcases h.2 with ⟨e1, e2⟩ | ⟨g, c', cur, e1, _⟩
  · simp only [Value.slice.injEq] at e1
    obtain ⟨rfl, _, rfl⟩ := e1
    obtain rfl : z = 0 := by omega
    simpa using World.ownsRow_nil W base e size
  · simp only [Value.slice.injEq] at e1
    obtain ⟨rfl, _, rfl⟩ := e1
    exact own_preP h hz
set_option maxHeartbeats 1000000 in
set_option maxRecDepth 100000 in
/-- Cut. -/
theorem gCut_ok (r : RD) (ao : Option Addr) (c : Nat) (Fs : List GF) (T : Nat → Prop) (n : ByteArray) (z : Nat) (K : Nat) (x : GF) (W : World) (h : GAt W (.slice ao Fs.length c) Fs T) (hfs : Fs.map Prod.fst = r.fs) (hl : Fs.length ≤ 256) (hF : r.found n = ((K : Int), 0)) (hx : Fs[K]? = some x) (hz : z ≤ x.1.rb.length) :
    Calls Try.prog 41 #[r.agg (.slice ao Fs.length c), .string n, .int .i64 (z : Nat)] W fun e w' => e = .returned (.tuple #[r.agg (.slice ao Fs.length c), .int .i64 0]) ∧ (∃ bv, GAt w' (.slice ao Fs.length c) (Fs.set K (⟨x.1.name, x.1.rb.take z⟩, bv)) T) ∧ Fr T W w' := by
  obtain ⟨⟨xn, rb⟩, bv⟩ := x
  (try dsimp only at *)
  obtain ⟨bo', bc, hbv⟩ := h.form hx
  dsimp only at hbv
  subst hbv
  obtain ⟨w, hw⟩ : ∃ w, w = (W.alloc (.cells (r.cells (.slice ao Fs.length c)) 30)).alloc (.cells zero8 30) := ⟨_, rfl⟩
  have hB : B2 W w (r.cells (.slice ao Fs.length c)) := by rw [hw]; exact B2.new _ _
  have HC := hide (gfound_any r ao c Fs T n w (h.fr0 hB.f) hfs hl)
  rw [hF] at HC
  have HB := hide (And.intro hB h)
  have hKl : (K : Int) < (Fs.length : Int) := by have := (List.getElem?_eq_some_iff.1 hx).1; omega
  clear hB h hfs hF
  obtain ⟨li, bo, wt, fs, ar, te, off, fu⟩ := r
  dsimp only at HC ⊢
  unfold RD.agg at HC ⊢
  unfold RD.cells zero8 at hw
  go_enter Try.func41, Try.ntmps41
  go_wp2_with fail
  rw [← hw]
  refine (unhide HC).mono ?_
  rintro e' w2 ⟨rfl, hf2⟩
  have hB2 := (unhide HB).1.fr0 hf2
  have hG2 := (unhide HB).2.fr0 hB2.f
  have hWl : W.heap.size ≤ w2.heap.size := hB2.f.size
  have HW := hide (unhide HB).2
  clear hf2 HB HC hw
  obtain ⟨c0, c1, c2, c3, c4, c5, c6, c7, _⟩ := cells_of8 hB2.d
  obtain ⟨g, rfl, hTg, d0, d1, hfz⟩ := hG2.at_ hx
  dsimp only at d0 d1
  have hz3 : ¬ (z : Int) > (rb.length : Int) := by omega
  have hr2 := hG2.b _ (List.mem_of_getElem? hx)
  dsimp only at hr2
  have hzc : z ≤ bc := by
    rcases hr2.2 with ⟨e, e2⟩ | ⟨g', c', cur, e, _, _, hc, _⟩
    · omega
    · simp only [Value.slice.injEq] at e; omega
  go_wp2_with fail
  go_region
  obtain ⟨w3, hw3⟩ : ∃ w3, w3 = (w2.setCell ⟨g, K * 2 + 1, none⟩ (.slice bo' z bc)).drew := ⟨_, rfl⟩
  have hf3 : Fr (fun k => k = g) w2 w3 := by rw [hw3]; exact ((Fr.refl (fun k => k = g) w2).setCell (p := ⟨g, K * 2 + 1, none⟩) (.inl rfl) _).drew
  have hgW := (unhide HW).lt g hTg
  have hv3 : w3.ownsRow 0 60 2 (.slice (some ⟨g, 0, none⟩) Fs.length c) Fs.length (gcells (Fs.set K (⟨xn, rb.take z⟩, .slice bo' z bc))) := by
    have h1 := (hG2.row.stored (K * 2 + 1) (.slice bo' z bc)).1
    rw [gcells_set Fs K _ hx _ (⟨xn, rb.take z⟩, .slice bo' z bc) (by simp [fc2])] at h1
    exact ownsRow_of_block h1 (fun k _ => by rw [hw3]; rfl)
  have hgb : ∀ k, (Value.slice bo' rb.length bc).ownBlock = some k → k ≠ g := fun k hk e => row_blk hG2.row (show (Value.slice (some ⟨g, 0, none⟩) Fs.length c).ownBlock = some g from rfl) hr2 (by decide) (e ▸ hk)
  have hb3 : w3.ownsRow 0 89 3 (.slice bo' z bc) (rb.take z).length (bcells (rb.take z)) := by
    rw [List.length_take, Nat.min_eq_left hz, bcells_take]
    have h1 := own_take hr2 hz
    exact ownsRow_of_block h1 (fun k hk => hf3.block k (h1.lt k hk).2 (fun e => hgb k (own_len hk) e))
  have hG3 := hG2.file (y := (⟨xn, rb.take z⟩, .slice bo' z bc)) hx (hf3.mono (fun k _ e => .inl (by rw [e]; rfl))) hv3 hb3 (fun k hk => .inl (own_len hk))
  have hd : w3.heap[W.heap.size]? = _ := (hf3.block _ (lt_of_block hB2.d) (fun e => by have e' : W.heap.size = g := e; omega)).trans hB2.d
  have hz3' : w3.heap[W.heap.size + 1]? = _ := (hf3.block _ (lt_of_block hB2.z) (fun e => by have e' : W.heap.size + 1 = g := e; omega)).trans hB2.z
  rw [← hw3]
  clear c0 c1 c2 c3 c4 c5 c6 c7
  obtain ⟨c0, c1, c2, c3, c4, c5, c6, c7, _⟩ := cells_of8 hd
  obtain ⟨V, hrV, hgV, hfV⟩ := gbox hz3' ⟨li, bo, wt, fs, ar, te, off, fu⟩ (some ⟨g, 0, none⟩) Fs.length c
  have hTb := (unhide HW).tb _ (List.mem_of_getElem? hx)
  have hfin : GAt V (.slice (some ⟨g, 0, none⟩) Fs.length c) (Fs.set K (⟨xn, rb.take z⟩, .slice bo' z bc)) T := by
    have h1 := hG3.fr hfV (fun k hk e => by
      have e' : k = W.heap.size + 1 := e
      rcases hk with hk | hk
      · have := (unhide HW).lt k hk; omega
      · have := (unhide HW).lt k (hTb k (own_len hk)); omega)
    exact ⟨h1.row, h1.b, h1.ap, hG2.tr, fun y hy k hk => (h1.tb y hy k hk).elim id (fun e => hTb k (own_len e)), fun k hk => h1.lt k (.inl hk)⟩
  have hTT : Fr T W V := ((hB2.f.mono (fun _ _ h => h.elim)).trans hf3 (fun i hi e => by have e' : i = g := e; rw [e']; exact hTg)).trans hfV (fun i hi e => by have e' : i = W.heap.size + 1 := e; omega)
  unfold RD.agg at hrV
  have HV := hide hrV
  have HE := hide (And.intro hgV (And.intro hfin hTT))
  clear hrV hgV hfV hfin hTT hG3 hG2 hB2 hx hr2 hgb hd hz3' hv3 hb3 hf3 hw3 HW hTb d0 d1
  go_wp2_with (refine wpList_stN rfl 30 _ _ rfl _ _ rfl rfl (unhide HV) ?_)
  (try simp only [Exit.inBlock, Exit.then])
  refine bodyPost_ret (results_cellt rfl _ _ (W.heap.size + 1) 0 _ _ _ rfl rfl (unhide HE).1 Try.underlying30 rfl (by kernel_rfl)) rfl ?_
  exact ⟨rfl, ⟨_, (unhide HE).2.1⟩, (unhide HE).2.2⟩
end Go.Proofs.Ytoflkfnmbighaaa

namespace Go.Proofs.Ytoflkfnmbighaaa
open Go.RowKit Go.ChangeShapes Go.WideShapes Go.Maps

def icells (l : List Nat) : List Value := l.map fun b => .int .i64 (b : Nat)
def mxN (bs : List Nat) (k : Nat) : Nat := (bs.take k).foldl (fun m b => if m ≤ b then b + 1 else m) 0
theorem mxN_succ {bs : List Nat} {k : Nat} (h : k < bs.length) : mxN bs (k + 1) = if mxN bs k ≤ bs[k] then bs[k] + 1 else mxN bs k := by
  unfold mxN
  rw [List.take_succ_eq_append_getElem h, List.foldl_append]
  rfl
theorem mxN_gt (bs : List Nat) : ∀ k, k ≤ bs.length → ∀ b ∈ bs.take k, b < mxN bs k := by
  intro k
  induction k with
  | zero => intro _ b hb; simp at hb
  | succ k ih =>
    intro hk b hb
    rw [List.take_succ_eq_append_getElem (by omega)] at hb
    rw [mxN_succ (by omega)]
    rcases List.mem_append.mp hb with h | h
    · have := ih (by omega) b h
      split <;> omega
    · simp at h
      subst h
      split <;> omega
theorem mxN_le (bs : List Nat) (M : Nat) (h : ∀ b ∈ bs, b < M) : ∀ k, k ≤ bs.length → mxN bs k ≤ M := by
  intro k
  induction k with
  | zero => intro _; simp [mxN]
  | succ k ih =>
    intro hk
    rw [mxN_succ (by omega)]
    have := h bs[k] (List.getElem_mem _)
    have := ih (by omega)
    split <;> omega
def upN (bs : List Nat) (z k : Nat) : Nat := (bs.take k).countP fun b => decide (b ≤ z)
theorem upN_succ {bs : List Nat} {z k : Nat} (h : k < bs.length) : upN bs z (k + 1) = upN bs z k + (if bs[k] ≤ z then 1 else 0) := by
  unfold upN
  rw [List.take_succ_eq_append_getElem h, List.countP_append]
  simp [List.countP_cons]
theorem upN_le (bs : List Nat) (z k : Nat) : upN bs z k ≤ k := Nat.le_trans List.countP_le_length (by simp; omega)
theorem upTo_mono (bs : List Nat) {z y : Nat} (h : z ≤ y) : upTo bs z ≤ upTo bs y := List.countP_mono_left fun b _ hb => by simp at hb ⊢; omega
/-- Numbers in memory. -/
def Ints (W : World) (ao : Option Addr) (l : List Nat) : Prop := ∀ j (hj : j < l.length), ∃ g o, ao = some ⟨g, o, none⟩ ∧ W.cell? ⟨g, o + j, none⟩ = some (.int .i64 (l[j] : Nat))
set_option maxHeartbeats 1000000 in
set_option maxRecDepth 100000 in
/-- boundary: below it just keep of the numbers lie. -/
theorem gbound_any (ao : Option Addr) (c : Nat) (bs : List Nat) (keep : Int) (W : World) (h : Ints W ao bs) (hl : bs.length ≤ 1048576) (hM : ∀ b ∈ bs, b < 2305843009213693952) :
    Calls Try.prog 51 #[.slice ao bs.length c, .int .i64 keep] W fun e w' => ∃ lo : Nat, e = .returned (.int .i64 (lo : Nat)) ∧ w' = W ∧ (∀ z, z < lo → (upTo bs z : Int) ≤ keep) ∧ (lo = mxN bs bs.length ∨ keep < (upTo bs lo : Int)) := by
  have HX := hide (And.intro h hM)
  clear h hM
  go_enter Try.func51, Try.ntmps51
  go_wp2_with fail
  go_loopw [5, 6] (fun mv iv wr => ∃ j : Nat, j ≤ bs.length ∧ iv = .int .i64 (j : Nat) ∧ mv = .int .i64 (mxN bs j : Nat) ∧ wr = W) (fun _ iv _ => bs.length - (intOf iv).toNat)
  case atStart => exact ⟨0, Nat.zero_le _, rfl, rfl, rfl⟩
  case round =>
    obtain ⟨j, hj, rfl, rfl, rfl⟩ := hrel
    by_cases hlt : j < bs.length
    · obtain ⟨g, o, rfl, cb⟩ := (unhide HX).1 j hlt
      have hb := (unhide HX).2 bs[j] (List.getElem_mem _)
      have HS := hide (mxN_succ hlt)
      have hm := mxN_le bs _ (unhide HX).2 j hj
      generalize bs[j] = b at *
      generalize mxN bs j = m at *
      have hkl : (j : Int) < (bs.length : Int) := by omega
      by_cases hbm : m ≤ b
      · have hbm' : (b : Int) ≥ (m : Int) := by omega
        rw [if_pos hbm] at HS
        go_wp2_with fail
        exact ⟨⟨j + 1, hlt, by go_num, by rw [unhide HS]; go_num, trivial⟩, by simp [intOf]; omega⟩
      · have hbm' : ¬ (b : Int) ≥ (m : Int) := by omega
        rw [if_neg hbm] at HS
        go_wp2_with fail
        exact ⟨⟨j + 1, hlt, by go_num, by rw [unhide HS], trivial⟩, by simp [intOf]; omega⟩
    · have hkl : ¬ (j : Int) < (bs.length : Int) := by omega
      obtain rfl : j = bs.length := by omega
      have hmx := mxN_le bs _ (unhide HX).2 bs.length (Nat.le_refl _)
      generalize hL : mxN bs bs.length = L at *
      go_wp2_with fail
      go_loopw [7, 8] (fun lv hv wq => ∃ lo hi : Nat, lv = .int .i64 (lo : Nat) ∧ hv = .int .i64 (hi : Nat) ∧ lo ≤ hi ∧ hi ≤ L ∧ (∀ z, z < lo → (upTo bs z : Int) ≤ keep) ∧ (hi = L ∨ keep < (upTo bs hi : Int)) ∧ wq = wr) (fun lv hv _ => (intOf hv).toNat - (intOf lv).toNat)
      case atStart => exact ⟨0, L, rfl, rfl, Nat.zero_le _, Nat.le_refl _, fun z hz => by omega, .inl rfl, rfl⟩
      case round =>
        obtain ⟨lo, hi, rfl, rfl, hlh, hhL, h1, h2, rfl⟩ := hrel
        by_cases hlt2 : lo < hi
        · have HQ := hide (And.intro h1 h2)
          clear h1 h2
          have hkl2 : (lo : Int) < (hi : Int) := by omega
          obtain ⟨mid, hmid⟩ : ∃ mid, mid = (lo + hi) / 2 := ⟨_, rfl⟩
          have hm1 : lo ≤ mid := by omega
          have hm2 : mid < hi := by omega
          have hmI : ((lo : Int) + (hi : Int)) / 2 = (mid : Int) := by omega
          go_wp2_with fail
          rw [hmI]
          clear hmI
          go_loopw [10, 11] (fun nv iv wz => ∃ j : Nat, j ≤ bs.length ∧ iv = .int .i64 (j : Nat) ∧ nv = .int .i64 (upN bs mid j : Nat) ∧ wz = wr) (fun _ iv _ => bs.length - (intOf iv).toNat)
          case atStart => exact ⟨0, Nat.zero_le _, rfl, rfl, rfl⟩
          case round =>
            obtain ⟨j, hj, rfl, rfl, rfl⟩ := hrel
            by_cases hlt : j < bs.length
            · obtain ⟨g, o, rfl, cb⟩ := (unhide HX).1 j hlt
              have HS := hide (upN_succ (z := mid) hlt)
              have hm := upN_le bs mid j
              generalize bs[j] = b at *
              generalize upN bs mid j = q at *
              have hkl : (j : Int) < (bs.length : Int) := by omega
              by_cases hbm : b ≤ mid
              · have hbm' : (b : Int) ≤ (mid : Int) := by omega
                rw [if_pos hbm] at HS
                go_wp2_with fail
                exact ⟨⟨j + 1, hlt, by go_num, by rw [unhide HS]; go_num, trivial⟩, by simp [intOf]; omega⟩
              · have hbm' : ¬ (b : Int) ≤ (mid : Int) := by omega
                rw [if_neg hbm] at HS
                go_wp2_with fail
                exact ⟨⟨j + 1, hlt, by go_num, by rw [unhide HS]; rfl, trivial⟩, by simp [intOf]; omega⟩
            · have hkl : ¬ (j : Int) < (bs.length : Int) := by omega
              obtain rfl : j = bs.length := by omega
              have hup : upN bs mid bs.length = upTo bs mid := by simp [upN, upTo]
              rw [hup]
              have HT := hide (fun z (hz : z ≤ mid) => upTo_mono bs hz)
              generalize hU : upTo bs mid = U at *
              by_cases hUk : (U : Int) > keep
              · go_wp2_with fail
                exact ⟨⟨lo, mid, rfl, rfl, hm1, by omega, (unhide HQ).1, .inr (by rw [hU]; exact hUk), trivial⟩, by simp [intOf]; omega⟩
              · go_wp2_with fail
                refine ⟨⟨mid + 1, hi, by go_num, rfl, by omega, hhL, fun z hz => ?_, (unhide HQ).2, trivial⟩, by simp [intOf]; omega⟩
                have h3 := (unhide HT) z (by omega)
                omega
        · have hkl2 : ¬ (lo : Int) < (hi : Int) := by omega
          obtain rfl : lo = hi := by omega
          go_wp2_with fail
          go_ret
          exact ⟨lo, rfl, rfl, h1, h2⟩
end Go.Proofs.Ytoflkfnmbighaaa

