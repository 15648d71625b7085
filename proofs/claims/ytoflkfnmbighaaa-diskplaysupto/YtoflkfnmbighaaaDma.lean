import Derived.Test.YtoflkfnmbighaaaDlp
import Derived.Test.YtoflkfnmbighaaaDlb
import Derived.Lib.Bytes
namespace Go.Proofs.Ytoflkfnmbighaaa
open Go.RowKit Go.ChangeShapes Go.WideShapes Go.Maps

theorem perm_keyed {α : Type} (key : α → Nat) : ∀ (A B : List α), A.Perm B → A.Pairwise (fun a b => key a ≤ key b) → B.Pairwise (fun a b => key a ≤ key b) → (∀ a ∈ A, ∀ b ∈ A, key a = key b → a = b) → A = B
  | [], B, h, _, _, _ => by rw [h.symm.eq_nil]
  | a :: A, [], h, _, _, _ => by have := h.length_eq; simp at this
  | a :: A, b :: B, h, hA, hB, he => by
    rw [List.pairwise_cons] at hA hB
    have e : a = b := by
      have ha : a ∈ b :: B := h.subset (List.mem_cons_self ..)
      have hb : b ∈ a :: A := h.symm.subset (List.mem_cons_self ..)
      rcases List.mem_cons.mp ha with e | ha'
      · exact e
      · rcases List.mem_cons.mp hb with e | hb'
        · exact e.symm
        · exact he a (List.mem_cons_self ..) b hb (Nat.le_antisymm (hA.1 b hb') (hB.1 a ha'))
    subst e
    rw [perm_keyed key A B h.cons_inv hA.2 hB.2 (fun x hx y hy => he x (List.mem_cons_of_mem _ hx) y (List.mem_cons_of_mem _ hy))]
/-- A pending byte: when it was born, its write's number, its file. -/
structure PB where
  b : Nat
  w : Nat
  f : Nat
def exp3 (L : List Own3) : List (Nat × Nat) := L.flatMap fun o => List.replicate o.sz (o.wr, o.fb)
theorem exp3_whose (L : List Own3) : (exp3 L).map Prod.snd = whose L := by
  simp [exp3, whose, List.map_flatMap]
theorem exp3_mem (L : List Own3) (p : Nat × Nat) (h : p ∈ exp3 L) : ∃ o ∈ L, p = (o.wr, o.fb) := by
  simp only [exp3, List.mem_flatMap] at h
  obtain ⟨o, ho, hp⟩ := h
  exact ⟨o, ho, List.eq_of_mem_replicate hp⟩
theorem exp3_rise : ∀ L : List Own3, L.Pairwise (fun a b => a.wr ≤ b.wr) → (exp3 L).Pairwise (fun a b => a.1 ≤ b.1)
  | [], _ => by simp [exp3]
  | o :: r, h => by
    rw [List.pairwise_cons] at h
    have e : exp3 (o :: r) = List.replicate o.sz (o.wr, o.fb) ++ exp3 r := rfl
    rw [e, List.pairwise_append]
    refine ⟨?_, exp3_rise r h.2, ?_⟩
    · rw [List.pairwise_replicate]; exact .inr (Nat.le_refl _)
    · intro a ha b hb
      obtain ⟨o', ho', rfl⟩ := exp3_mem r b hb
      rw [List.eq_of_mem_replicate ha]
      exact h.1 o' ho'
theorem filter_below {α : Type} (key : α → Nat) (z : Nat) : ∀ H : List α, H.Pairwise (fun a b => key a ≤ key b) → H.filter (fun a => decide (key a < z)) = H.take (H.countP (fun a => decide (key a < z)))
  | [], _ => rfl
  | a :: H, h => by
    rw [List.pairwise_cons] at h
    by_cases ha : key a < z
    · simp only [List.filter_cons, List.countP_cons, decide_eq_true ha, if_true]
      rw [List.take_succ_cons, filter_below key z H h.2]
    · have e : ∀ b ∈ H, ¬ key b < z := fun b hb => by have := h.1 b hb; omega
      have e1 : H.filter (fun a => decide (key a < z)) = [] := List.filter_eq_nil_iff.mpr fun b hb => by simpa using e b hb
      have e2 : H.countP (fun a => decide (key a < z)) = 0 := List.countP_eq_zero.mpr fun b hb => by simpa using e b hb
      simp [ha, e1, e2]
/-- What a crash leaves of a file, by writes and by births. -/
theorem gain_born (L : List Own3) (H0 : List PB) (keep last x : Nat) (hL : L.Pairwise (fun a b => a.wr ≤ b.wr)) (hp : (exp3 L).Perm (H0.map fun t => (t.w, t.f)))
    (hc : ∀ t ∈ H0, ∀ u ∈ H0, t.b < u.b → t.w ≤ u.w) (hw : ∀ t ∈ H0, ∀ u ∈ H0, t.w = u.w → t.f = u.f) (hn : (H0.map PB.b).Nodup)
    (hk : H0.countP (fun t => decide (t.b < last)) = min keep H0.length) :
    ((whose L).take keep).count x = H0.countP (fun t => decide (t.f = x) && decide (t.b < last)) := by
  have hle : ∀ a b : PB, (decide (a.b ≤ b.b) || decide (b.b ≤ a.b)) = true := fun a b => by simp; omega
  obtain ⟨H, hH⟩ : ∃ H, H = H0.mergeSort (fun a b => decide (a.b ≤ b.b)) := ⟨_, rfl⟩
  have hs : H.Pairwise (fun a b => a.b ≤ b.b) := by
    rw [hH]
    have := List.pairwise_mergeSort (le := fun a b : PB => decide (a.b ≤ b.b)) (fun a b c h1 h2 => by simp at h1 h2 ⊢; omega) hle H0
    simpa using this
  have hP : H.Perm H0 := by rw [hH]; exact List.mergeSort_perm _ _
  have hn' : H.Pairwise (fun a b => a.b ≠ b.b) := by
    have h1 : (H.map PB.b).Nodup := (hP.map _).nodup_iff.mpr hn
    simpa [List.Nodup, List.pairwise_map] using h1
  have hst : H.Pairwise (fun a b => a.b < b.b) := by
    have := hs.and hn'
    exact this.imp fun h => by omega
  have hE : exp3 L = H.map fun t => (t.w, t.f) := by
    refine perm_keyed Prod.fst _ _ (hp.trans (hP.map _).symm) (exp3_rise L hL) ?_ ?_
    · rw [List.pairwise_map]
      refine (List.Pairwise.and_mem.mp hst).imp fun ⟨ha, hb, hlt⟩ => hc _ (hP.subset ha) _ (hP.subset hb) hlt
    · intro a ha b hb e
      have ha' := hp.subset ha
      have hb' := hp.subset hb
      rw [List.mem_map] at ha' hb'
      obtain ⟨t, ht, rfl⟩ := ha'
      obtain ⟨u, hu, rfl⟩ := hb'
      have e2 : t.w = u.w := e
      rw [e2, hw t ht u hu e2]
  have h1 : whose L = H.map PB.f := by rw [← exp3_whose, hE]; simp
  have hlen : H.length = H0.length := hP.length_eq
  have h2 : H.filter (fun t => decide (t.b < last)) = H.take keep := by
    rw [filter_below PB.b last H hs, hP.countP_eq, hk, ← hlen]
    rcases Nat.le_total keep H.length with h | h
    · rw [Nat.min_eq_left h]
    · rw [Nat.min_eq_right h, List.take_of_length_le (Nat.le_refl _), List.take_of_length_le h]
  rw [h1, ← hP.countP_eq, ← List.countP_filter, h2, ← List.map_take, List.count, List.countP_map]
  congr 1
/-- How many of some numbers are at most z. -/
def upTo (bs : List Nat) (z : Nat) : Nat := bs.countP fun b => decide (b ≤ z)
theorem count_le_one (bs : List Nat) (hn : bs.Nodup) (z : Nat) : upTo bs z ≤ bs.countP (fun b => decide (b < z)) + 1 := by
  induction bs with
  | nil => simp [upTo]
  | cons a r ih =>
    rw [List.nodup_cons] at hn
    have h := ih hn.2
    simp only [upTo, List.countP_cons] at h ⊢
    by_cases ha : a = z
    · subst ha
      have e : r.countP (fun b => decide (b ≤ a)) = r.countP (fun b => decide (b < a)) := by
        refine List.countP_congr fun b hb => ?_
        have : b ≠ a := fun e => hn.1 (e ▸ hb)
        simp; omega
      rw [e]; simp
    · rcases Nat.lt_or_gt_of_ne ha with h1 | h1
      · simp [h1, Nat.le_of_lt h1]; omega
      · have h2 : ¬ a ≤ z := by omega
        have h3 : ¬ a < z := by omega
        simp [h2, h3]; exact h
/-- What the search for the boundary finds. -/
theorem bound_count (bs : List Nat) (keep : Int) (least lo : Nat) (hn : bs.Nodup) (hle : ∀ b ∈ bs, b < least) (h1 : ∀ z, z < lo → (upTo bs z : Int) ≤ keep) (h2 : lo = least ∨ keep < (upTo bs lo : Int)) :
    bs.countP (fun b => decide (b < lo)) = min keep.toNat bs.length := by
  have hlen : bs.countP (fun b => decide (b < lo)) ≤ bs.length := List.countP_le_length
  have hk : bs.countP (fun b => decide (b < lo)) ≤ keep.toNat := by
    rcases lo with _ | z
    · have : bs.countP (fun b => decide (b < 0)) = 0 := List.countP_eq_zero.mpr (by simp)
      omega
    · have e := h1 z (Nat.lt_succ_self z)
      have e2 : bs.countP (fun b => decide (b < z + 1)) = upTo bs z := List.countP_congr fun b _ => by simp; omega
      omega
  rcases h2 with rfl | h2
  · have e : bs.countP (fun b => decide (b < lo)) = bs.length := List.countP_eq_length.mpr fun b hb => by simpa using hle b hb
    omega
  · have := count_le_one bs hn lo
    omega

/-- A byte of the document's disk: what it is, its number, is it safe? -/
structure RB where
  v : Nat
  b : Nat
  s : Bool
structure RFl where
  name : ByteArray
  rb : List RB
/-- The document's disk. -/
structure RD where
  limit : Nat
  born : Nat
  writes : Nat
  fs : List RFl
  armed : Int
  tear : Int
  off : Bool
  full : Bool
/-- The writes of pending bytes. -/
def exps (ps : List (Nat × Nat)) : List Nat := ps.flatMap fun p => List.replicate p.2 p.1
theorem exps_app (a b : List (Nat × Nat)) : exps (a ++ b) = exps a ++ exps b := by simp [exps]
theorem exps_one (p : Nat × Nat) : exps [p] = List.replicate p.2 p.1 := by simp [exps]
theorem exps_len : ∀ ps : List (Nat × Nat), (exps ps).length = sumP ps
  | [] => rfl
  | p :: r => by
    have e : exps (p :: r) = List.replicate p.2 p.1 ++ exps r := rfl
    rw [e, List.length_append, List.length_replicate, exps_len r]; rfl
theorem exps_dropR : ∀ (rs : List (Nat × Nat)) (g : Nat), exps (dropR rs g).reverse = (exps rs.reverse).take ((exps rs.reverse).length - g)
  | [], g => by simp [dropR, exps]
  | p :: r, g => by
    unfold dropR
    by_cases h0 : g = 0
    · subst h0; simp
    · rw [if_neg h0]
      have e : exps (p :: r).reverse = exps r.reverse ++ List.replicate p.2 p.1 := by rw [List.reverse_cons, exps_app, exps_one]
      have el : (exps (p :: r).reverse).length = (exps r.reverse).length + p.2 := by rw [e]; simp
      by_cases h1 : p.2 ≤ g
      · rw [if_pos h1, exps_dropR r (g - p.2), el, e, List.take_append_of_le_length (by omega)]
        congr 1
        omega
      · rw [if_neg h1, List.reverse_cons, exps_app, exps_one, el, e, List.take_append]
        rw [List.take_of_length_le (by omega), List.take_replicate]
        simp only
        congr 2
        omega
theorem exps_drop (ps : List (Nat × Nat)) (g : Nat) : exps (dropP ps g) = (exps ps).take ((exps ps).length - g) := by
  have := exps_dropR ps.reverse g
  simpa [dropP] using this
theorem dropR_len : ∀ (rs : List (Nat × Nat)) (g : Nat), (dropR rs g).length ≤ rs.length
  | [], g => by simp [dropR]
  | p :: r, g => by
    unfold dropR
    split
    · simp
    · split
      · have := dropR_len r (g - p.2); simp; omega
      · simp
theorem dropP_len (ps : List (Nat × Nat)) (g : Nat) : (dropP ps g).length ≤ ps.length := by
  have := dropR_len ps.reverse g
  simpa [dropP] using this
theorem exps_sz (ps : List (Nat × Nat)) (p : Nat × Nat) (h : p ∈ ps) : p.2 ≤ (exps ps).length := by
  rw [exps_len]
  induction ps with
  | nil => cases h
  | cons a r ih =>
    simp only [sumP]
    rcases List.mem_cons.mp h with rfl | h
    · omega
    · have := ih h; omega
/-- A file against the document's. -/
structure FR (f : FM) (rb : List RB) (wr born : Nat) : Prop where
  b : f.b = rb.map RB.v
  sl : f.safe ≤ rb.length
  s : ∀ i (h : i < rb.length), rb[i].s = decide (i < f.safe)
  pl : (exps f.ps).length = rb.length - f.safe
  rise : ((rb.drop f.safe).map RB.b).Pairwise (· < ·)
  bb : ∀ x ∈ rb.drop f.safe, x.b < born
  wb : ∀ x ∈ exps f.ps, x ≤ wr
/-- A file's pending bytes: their numbers, their writes. -/
def pdl (f : FM) (rb : List RB) : List (Nat × Nat) := ((rb.drop f.safe).map RB.b).zip (exps f.ps)
/-- The program's disk against the document's. -/
structure Rel (s : DM) (r : RD) : Prop where
  lim : r.limit = s.limit
  lim1 : s.limit ≤ 1048576
  wr : r.writes = s.writes
  off : r.off = s.off
  full : r.full = s.full
  arm : r.armed = s.left
  tear : s.left ≠ 0 → r.tear = s.tear
  l0 : 0 ≤ s.left ∧ s.left < 9223372036854775808
  t0 : 0 ≤ s.tear ∧ s.tear < 9223372036854775808
  map : IsMap s.D
  keys : ((ents s.D).map Prod.fst).Perm (r.fs.map fun f => .string (nm f.name))
  nd : (r.fs.map fun f => nm f.name).Nodup
  nl : ∀ f ∈ r.fs, 1 ≤ f.name.size ∧ f.name.size ≤ 64
  n256 : r.fs.length ≤ 256
  F : ∀ f ∈ r.fs, FR (s.F (nm f.name)) f.rb s.writes r.born
  com : ∀ f ∈ r.fs, ∀ g ∈ r.fs, ∀ p ∈ pdl (s.F (nm f.name)) f.rb, ∀ q ∈ pdl (s.F (nm g.name)) g.rb, (p.1 < q.1 → p.2 ≤ q.2) ∧ (p.2 = q.2 → nm f.name = nm g.name) ∧ (p.1 = q.1 → nm f.name = nm g.name)
  used : s.used = (r.fs.map fun f => f.rb.length).sum
  ul : s.used ≤ s.limit
  tot : (r.fs.map fun f => (s.F (nm f.name)).ps.length).sum ≤ s.writes
theorem nm_inj {a b : ByteArray} (h : nm a = nm b) : a = b := by
  obtain ⟨⟨x⟩⟩ := a
  obtain ⟨⟨y⟩⟩ := b
  simp only [nm] at h
  subst h
  rfl
theorem has_keys {s : DM} {r : RD} (h : Rel s r) (x : List UInt8) : Maps.has s.D (.string x) = true ↔ ∃ f ∈ r.fs, nm f.name = x := by
  obtain ⟨es, he⟩ := h.map
  have hk := h.keys
  rw [he] at hk ⊢
  rw [has_eq]
  constructor
  · intro ha
    rw [List.any_eq_true] at ha
    obtain ⟨p, hp, hs⟩ := ha
    have e := WideAt.sameKey_eq hs
    have : p.1 ∈ (ents (DataW.map es)).map Prod.fst := List.mem_map.mpr ⟨p, hp, rfl⟩
    have := hk.subset this
    rw [List.mem_map] at this
    obtain ⟨f, hf, e2⟩ := this
    rw [e] at e2
    exact ⟨f, hf, by cases e2; rfl⟩
  · rintro ⟨f, hf, rfl⟩
    have : (Lit.string (nm f.name)) ∈ (ents (DataW.map es)).map Prod.fst := hk.symm.subset (List.mem_map.mpr ⟨f, hf, rfl⟩)
    rw [List.mem_map] at this
    obtain ⟨p, hp, e⟩ := this
    rw [List.any_eq_true]
    exact ⟨p, hp, by rw [e]; simp [Lit.sameKey]⟩
theorem sumA_map (g : Lit → Int) : ∀ l : List (Lit × DataW Unit), sumA g l = ((l.map Prod.fst).map g).sum
  | [] => rfl
  | p :: r => by simp only [sumA, List.map_cons, List.sum_cons]; rw [sumA_map g r]
theorem catA_map (g : Lit → List Own3) : ∀ l : List (Lit × DataW Unit), catA g l = (l.map Prod.fst).flatMap g
  | [] => rfl
  | p :: r => by simp only [catA, List.map_cons, List.flatMap_cons]; rw [catA_map g r]
theorem perm_sum {a b : List Int} (h : a.Perm b) : a.sum = b.sum := by
  induction h with
  | nil => rfl
  | cons x _ ih => simp [ih]
  | swap x y l => simp; omega
  | trans _ _ h1 h2 => exact h1.trans h2
theorem sum_cast (l : List Nat) : ((l.sum : Nat) : Int) = (l.map fun (n : Nat) => (n : Int)).sum := by
  induction l with
  | nil => rfl
  | cons a r ih => simp [ih]
theorem rel_size {s : DM} {r : RD} (h : Rel s r) : Maps.size s.D = r.fs.length := by
  obtain ⟨es, he⟩ := h.map
  have hk := h.keys.length_eq
  rw [he] at hk ⊢
  rw [size_eq]
  simpa [ents] using hk
theorem rel_sum {s : DM} {r : RD} (h : Rel s r) (g : Lit → Int) : sumA g (ents s.D) = (r.fs.map fun f => g (.string (nm f.name))).sum := by
  rw [sumA_map, perm_sum (h.keys.map g), List.map_map]
  rfl
theorem rel_ln {s : DM} {r : RD} (h : Rel s r) : (s.used : Int) = sumA s.ln (ents s.D) := by
  rw [rel_sum h, h.used, sum_cast, List.map_map]
  congr 1
  refine List.map_congr_left fun f hf => ?_
  simp [DM.ln, (h.F f hf).b]
theorem mem_le_sum : ∀ (l : List Nat) (x : Nat), x ∈ l → x ≤ l.sum
  | a :: r, x, h => by
    rcases List.mem_cons.mp h with rfl | h
    · simp
    · have := mem_le_sum r x h; simp; omega
theorem rel_len {s : DM} {r : RD} (h : Rel s r) (f : RFl) (hf : f ∈ r.fs) : f.rb.length ≤ s.used := by
  rw [h.used]
  exact mem_le_sum _ _ (List.mem_map.mpr ⟨f, hf, rfl⟩)
theorem rel_blen {s : DM} {r : RD} (h : Rel s r) (f : RFl) (hf : f ∈ r.fs) : (s.F (nm f.name)).b.length = f.rb.length := by rw [(h.F f hf).b]; simp
theorem rel_ps {s : DM} {r : RD} (h : Rel s r) (f : RFl) (hf : f ∈ r.fs) : (s.F (nm f.name)).ps.length ≤ s.writes := Nat.le_trans (mem_le_sum _ _ (List.mem_map.mpr ⟨f, hf, rfl⟩)) h.tot
theorem rel_sz {s : DM} {r : RD} (h : Rel s r) (f : RFl) (hf : f ∈ r.fs) : ∀ p ∈ (s.F (nm f.name)).ps, p.2 ≤ 1048576 := fun p hp => by
  have h1 := exps_sz _ p hp
  rw [(h.F f hf).pl] at h1
  have h2 := rel_len h f hf
  have h3 := h.ul
  have h4 := h.lim1
  omega
theorem rel_allp {s : DM} {r : RD} (h : Rel s r) (q : DW) : (s.allp q).length ≤ s.writes := by
  have e : (s.allp q).Perm ((r.fs.map fun f => Lit.string (nm f.name)).flatMap (s.pcs q)) := by
    unfold DM.allp
    rw [catA_map]
    exact h.keys.flatMap_right _
  rw [e.length_eq, List.length_flatMap, List.map_map]
  have : (r.fs.map ((fun a => (s.pcs q a).length) ∘ fun f => Lit.string (nm f.name))) = r.fs.map fun f => (s.F (nm f.name)).ps.length := by
    refine List.map_congr_left fun f _ => ?_
    simp [DM.pcs]
  rw [this]
  exact h.tot
end Go.Proofs.Ytoflkfnmbighaaa
