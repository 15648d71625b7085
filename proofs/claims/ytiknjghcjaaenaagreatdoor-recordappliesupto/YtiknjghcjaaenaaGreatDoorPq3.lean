import Derived.Test.YtiknjghcjaaenaaGreatDoorPq2
import Derived.Test.YtiknjghcjaaenaaGreatDoorPq1
import Derived.Test.YtiknjghcjaaenaaGreatDoorKOcc
import Derived.Test.YtiknjghcjaaenaaGreatDoorKPoj
import Derived.Test.YtiknjghcjaaenaaGreatDoorKOab
import Derived.Test.YtiknjghcjaaenaaGreatDoorKObb
import Derived.Test.YtiknjghcjaaenaaGreatDoorKOaq
namespace Go.Proofs.YtiknjghcjaaenaaGreatDoor
open Go.RowKit Go.Shelf
def Blk (x : Value) (k : Nat) : Prop := ∃ o n c, x = .slice (some ⟨k, o, none⟩) n c ∧ 0 < n
def Rd (w : World) (z : Nat) (x : Value) (n : Nat) (xs : List Value) : Prop :=
 xs.length = n * z ∧ ((∃ a c, x = .slice a 0 c ∧ n = 0) ∨ ∃ g o c, x = .slice (some ⟨g, o, none⟩) n c ∧ ∀ i u, xs[i]? = some u → w.cell? ⟨g, o + i, none⟩ = some u)
theorem Rd.form {w : World} {z n : Nat} {x : Value} {xs : List Value} (h : Rd w z x n xs) : ∃ xo xc, x = .slice xo n xc := by
 rcases h.2 with ⟨a, c, rfl, rfl⟩ | ⟨g, o, c, rfl, _⟩ <;> exact ⟨_, _, rfl⟩
theorem Rd.frS {w w' : World} {z n : Nat} {x : Value} {xs : List Value} {S : Nat → Prop} (h : Rd w z x n xs) (hf : Fr S w w') (hS : ∀ k, Blk x k → ¬ S k) : Rd w' z x n xs := by
 refine ⟨h.1, ?_⟩
 rcases h.2 with h2 | ⟨g, o, c, e, h2⟩
 ·exact .inl h2
 ·rcases Nat.eq_zero_or_pos n with h0 | h0
  ·exact .inl ⟨some ⟨g, o, none⟩, c, by rw [e, h0], h0⟩
  ·exact .inr ⟨g, o, c, e, fun i u hu => (hf.cell (p := ⟨g, _, none⟩) (lt_of_cell (h2 i u hu)) (hS g ⟨o, n, c, e, h0⟩)).trans (h2 i u hu)⟩
theorem Rd.at_ {w : World} {z n m c : Nat} {xo : Option Addr} {xs : List Value} (h : Rd w z (.slice xo m c) n xs) (hn : 0 < n) : ∃ g o, xo = some ⟨g, o, none⟩ ∧ ∀ i u, xs[i]? = some u → w.cell? ⟨g, o + i, none⟩ = some u := by
 rcases h.2 with ⟨_, _, _, h2⟩ | ⟨g, o, c', e, h2⟩
 ·omega
 ·simp only [Value.slice.injEq] at e
  obtain ⟨rfl, _, _⟩ := e
  exact ⟨g, o, rfl, h2⟩
theorem own_rd {w : World} {base e z n : Nat} {x : Value} {xs : List Value} (h : w.ownsRow base e z x n xs) : Rd w z x n xs := by
 refine ⟨h.1, ?_⟩
 rcases h.2 with ⟨rfl, rfl⟩ | ⟨g, cap, cur, rfl, _⟩
 ·exact .inl ⟨none, 0, rfl, rfl⟩
 ·refine .inr ⟨g, 0, cap, rfl, fun i u hu => ?_⟩
  have hi := (List.getElem?_eq_some_iff.1 hu).1
  have h1 := h.1
  rw [Nat.zero_add, h.cellAt i (by omega)]
  exact hu
theorem own_blkX {w : World} {base e z n : Nat} {x : Value} {xs : List Value} (h : w.ownsRow base e z x n xs) {k : Nat} (hk : Blk x k) : base ≤ k ∧ k < w.heap.size := by
 obtain ⟨o, n', c, rfl, _⟩ := hk
 exact h.lt k rfl
structure GV where
 v : VM
 fv : Value
structure GC where
 wa : Nat
 ow : Nat
 sl : Bool
 G : List Nat
 V : List GV
 gv : Value
 vv : Value
def GV.cs (x : GV) : List Value := [.int .u32 (x.v.au : Nat), .int .u32 (x.v.ev : Nat), x.fv, .bool x.v.rd]
def GC.cs (x : GC) : List Value := [.int .u32 (x.wa : Nat), .int .u32 (x.ow : Nat), .bool x.sl, x.gv, x.vv]
def GC.cm (x : GC) : CM := ⟨x.wa, x.ow, x.sl, x.G, x.V.map GV.v⟩
def vgc (l : List GV) : List Value := l.flatMap GV.cs
def cgc (l : List GC) : List Value := l.flatMap GC.cs
theorem vgc_len (l : List GV) : (vgc l).length = l.length * 4 := by
 induction l with
 | nil => rfl
 | cons x r ih =>
  have e : vgc (x :: r) = x.cs ++ vgc r := by simp [vgc]
  rw [e, List.length_append, ih]
  simp only [GV.cs, List.length_cons, List.length_nil]
  omega
theorem vgc_app (l : List GV) (x : GV) : vgc (l ++ [x]) = vgc l ++ x.cs := by simp [vgc]
theorem cgc_app (l : List GC) (x : GC) : cgc (l ++ [x]) = cgc l ++ x.cs := by simp [cgc]
theorem vgc_at : ∀ (l : List GV) (j : Nat) (x : GV), l[j]? = some x → ∀ k, k < 4 → (vgc l)[j * 4 + k]? = x.cs[k]?
 | [], j, x, h, _, _ => by simp at h
 | y :: r, 0, x, h, k, hk => by
  simp at h
  subst h
  have e : vgc (y :: r) = y.cs ++ vgc r := by simp [vgc]
  rw [e, List.getElem?_append_left (by simp [GV.cs]; omega)]
  simp
 | y :: r, j + 1, x, h, k, hk => by
  rw [List.getElem?_cons_succ] at h
  have e : vgc (y :: r) = y.cs ++ vgc r := by simp [vgc]
  rw [e, List.getElem?_append_right (by simp [GV.cs]; omega), show (j + 1) * 4 + k - y.cs.length = j * 4 + k by simp [GV.cs]; omega]
  exact vgc_at r j x h k hk
theorem cgc_at : ∀ (l : List GC) (j : Nat) (x : GC), l[j]? = some x → ∀ k, k < 5 → (cgc l)[j * 5 + k]? = x.cs[k]?
 | [], j, x, h, _, _ => by simp at h
 | y :: r, 0, x, h, k, hk => by
  simp at h
  subst h
  have e : cgc (y :: r) = y.cs ++ cgc r := by simp [cgc]
  rw [e, List.getElem?_append_left (by simp [GC.cs]; omega)]
  simp
 | y :: r, j + 1, x, h, k, hk => by
  rw [List.getElem?_cons_succ] at h
  have e : cgc (y :: r) = y.cs ++ cgc r := by simp [cgc]
  rw [e, List.getElem?_append_right (by simp [GC.cs]; omega), show (j + 1) * 5 + k - y.cs.length = j * 5 + k by simp [GC.cs]; omega]
  exact cgc_at r j x h k hk
structure GCt (w : World) (T : Nat → Prop) (x : GC) : Prop where
 g : Us w x.gv x.G
 gb : ∀ k, Blk x.gv k → T k
 v : Rd w 4 x.vv x.V.length (vgc x.V)
 vb : ∀ k, Blk x.vv k → T k
 f : ∀ y ∈ x.V, Fds w y.fv y.v.F
 fb : ∀ y ∈ x.V, ∀ k, Blk y.fv k → T k
structure GSt (w : World) (T : Nat → Prop) (sv rv : Value) (S : List P3) (L : List GC) : Prop where
 s : Stf w sv S
 sb : ∀ k, Blk sv k → T k
 r : Rd w 5 rv L.length (cgc L)
 rb : ∀ k, Blk rv k → T k
 c : ∀ x ∈ L, GCt w T x
theorem Us.frB {w w' : World} {x : Value} {l : List Nat} {S : Nat → Prop} (h : Us w x l) (hf : Fr S w w') (hS : ∀ k, Blk x k → ¬ S k) : Us w' x l := h.frS hf (fun g o n c e h0 => hS g ⟨o, n, c, e, h0⟩)
theorem Stf.frB {w w' : World} {x : Value} {l : List P3} {S : Nat → Prop} (h : Stf w x l) (hf : Fr S w w') (hS : ∀ k, Blk x k → ¬ S k) : Stf w' x l := h.frM hf (fun g o n c e h0 => hS g ⟨o, n, c, e, h0⟩)
theorem Fds.frB {w w' : World} {x : Value} {l : List F5} {S : Nat → Prop} (h : Fds w x l) (hf : Fr S w w') (hS : ∀ k, Blk x k → ¬ S k) : Fds w' x l := h.frS hf (fun g o n c e h0 => hS g ⟨o, n, c, e, h0⟩)
theorem GCt.frS {w w' : World} {T S : Nat → Prop} {x : GC} (h : GCt w T x) (hf : Fr S w w') (hS : ∀ k, S k → ¬ T k) : GCt w' T x :=
 ⟨h.g.frB hf (fun k hk hs => hS k hs (h.gb k hk)), h.gb, h.v.frS hf (fun k hk hs => hS k hs (h.vb k hk)), h.vb, fun y hy => (h.f y hy).frB hf (fun k hk hs => hS k hs (h.fb y hy k hk)), h.fb⟩
theorem GCt.mono {w : World} {T T' : Nat → Prop} {x : GC} (h : GCt w T x) (hT : ∀ k, T k → T' k) : GCt w T' x :=
 ⟨h.g, fun k hk => hT k (h.gb k hk), h.v, fun k hk => hT k (h.vb k hk), h.f, fun y hy k hk => hT k (h.fb y hy k hk)⟩
theorem GSt.frS {w w' : World} {T S' : Nat → Prop} {sv rv : Value} {S : List P3} {L : List GC} (h : GSt w T sv rv S L) (hf : Fr S' w w') (hS : ∀ k, S' k → ¬ T k) : GSt w' T sv rv S L :=
 ⟨h.s.frB hf (fun k hk hs => hS k hs (h.sb k hk)), h.sb, h.r.frS hf (fun k hk hs => hS k hs (h.rb k hk)), h.rb, fun x hx => (h.c x hx).frS hf hS⟩
theorem GSt.fr {w w' : World} {T : Nat → Prop} {sv rv : Value} {S : List P3} {L : List GC} (h : GSt w T sv rv S L) (hf : Fr (fun _ => False) w w') : GSt w' T sv rv S L := h.frS hf (fun _ h => h.elim)
theorem GSt.mono {w : World} {T T' : Nat → Prop} {sv rv : Value} {S : List P3} {L : List GC} (h : GSt w T sv rv S L) (hT : ∀ k, T k → T' k) : GSt w T' sv rv S L :=
 ⟨h.s, fun k hk => hT k (h.sb k hk), h.r, fun k hk => hT k (h.rb k hk), fun x hx => (h.c x hx).mono hT⟩
theorem Tryz.infoGV : (Tryz.prog.info? 75).map (fun i => (i.zero, i.size, i.bytes)) = some (some (.agg #[.int .u32 0, .int .u32 0, .slice none 0 0, .bool false]), 4, 40) := by kernel_rfl
theorem app_GV (w : World) (base x : Nat) (v : Value) (l : List GV) (p : GV) (h : w.ownsRow base 75 4 v l.length (vgc l)) (hb : base ≤ w.heap.size) (hn : l.length ≤ 1000000000) (hx : w.heap[x]? = some (.cells p.cs.toArray 75)) (h1 : ∀ u ∈ p.cs, u.oneCell' = true) :
  ∃ ao cap w', (Builtin.append_ #[76, 76] 76 #[v, .slice (some ⟨x, 0, none⟩) 1 1]).run Tryz.prog w = .ok (.slice ao (l.length + 1) cap) w' ∧ w'.ownsRow base 75 4 (.slice ao (l.length + 1) cap) (l.length + 1) (vgc (l ++ [p])) ∧ Fr (fun g => v.ownBlock = some g) w w' := by
 obtain ⟨i0, hi, hz0, hz1, hz2⟩ := info_parts Tryz.infoGV
 obtain ⟨v', w', hr, h2, h3, _, h5⟩ := run_append_own_at (P := Tryz.prog) (w := w) base 76 76 75 i0 (.agg #[.int .u32 0, .int .u32 0, .slice none 0 0, .bool false]) 4 40 Tryz.underlying76 hi hz0 hz1 hz2 rfl (by decide) v l.length (vgc l) h ⟨x, 0, none⟩ 1 1 p.cs rfl (fun j u hu => by
  rw [addr_add, Nat.zero_add]
  simp only [World.cell?, hx]
  simpa using hu) h1 (by simp only [maxLen]; omega) (by omega) hb
 obtain ⟨ao, cap, rfl⟩ := own_formX h2
 exact ⟨ao, cap, w', hr, by rw [vgc_app]; exact h2, (Fr.refl _ _).grown h3 (fun g hg => .inl hg)⟩
theorem Tryz.infoGC : (Tryz.prog.info? 78).map (fun i => (i.zero, i.size, i.bytes)) = some (some (.agg #[.int .u32 0, .int .u32 0, .bool false, .slice none 0 0, .slice none 0 0]), 5, 64) := by kernel_rfl
theorem app_GC (w : World) (base x : Nat) (v : Value) (l : List GC) (p : GC) (h : w.ownsRow base 78 5 v l.length (cgc l)) (hb : base ≤ w.heap.size) (hn : l.length ≤ 1000000000) (hx : w.heap[x]? = some (.cells p.cs.toArray 78)) (h1 : ∀ u ∈ p.cs, u.oneCell' = true) :
  ∃ ao cap w', (Builtin.append_ #[34, 34] 34 #[v, .slice (some ⟨x, 0, none⟩) 1 1]).run Tryz.prog w = .ok (.slice ao (l.length + 1) cap) w' ∧ w'.ownsRow base 78 5 (.slice ao (l.length + 1) cap) (l.length + 1) (cgc (l ++ [p])) ∧ Fr (fun g => v.ownBlock = some g) w w' := by
 obtain ⟨i0, hi, hz0, hz1, hz2⟩ := info_parts Tryz.infoGC
 obtain ⟨v', w', hr, h2, h3, _, h5⟩ := run_append_own_at (P := Tryz.prog) (w := w) base 34 34 78 i0 (.agg #[.int .u32 0, .int .u32 0, .bool false, .slice none 0 0, .slice none 0 0]) 5 64 Tryz.underlying34 hi hz0 hz1 hz2 rfl (by decide) v l.length (cgc l) h ⟨x, 0, none⟩ 1 1 p.cs rfl (fun j u hu => by
  rw [addr_add, Nat.zero_add]
  simp only [World.cell?, hx]
  simpa using hu) h1 (by simp only [maxLen]; omega) (by omega) hb
 obtain ⟨ao, cap, rfl⟩ := own_formX h2
 exact ⟨ao, cap, w', hr, by rw [cgc_app]; exact h2, (Fr.refl _ _).grown h3 (fun g hg => .inl hg)⟩
def GV.one (x : GV) : Prop := x.fv.oneCell' = true
def GC.one (x : GC) : Prop := x.gv.oneCell' = true ∧ x.vv.oneCell' = true
theorem GV.one_cs {x : GV} (h : x.one) : ∀ u ∈ x.cs, u.oneCell' = true := by
 intro u hu
 simp [GV.cs] at hu
 rcases hu with rfl | rfl | rfl | rfl <;> first | rfl | exact h
theorem GC.one_cs {x : GC} (h : x.one) : ∀ u ∈ x.cs, u.oneCell' = true := by
 intro u hu
 simp [GC.cs] at hu
 rcases hu with rfl | rfl | rfl | rfl | rfl <;> first | rfl | exact h.1 | exact h.2
set_option maxHeartbeats 2000000 in
set_option maxRecDepth 100000 in
theorem gversions_any (x : Value) (V : List GV) (w : World) (hx : Rd w 4 x V.length (vgc V)) (h1 : ∀ v ∈ V, v.one) (hl : V.length ≤ 1000000) :
  Calls Tryz.prog 29 #[x] w fun e w' => ∃ v, e = .returned v ∧ w'.ownsRow w.heap.size 75 4 v V.length (vgc V) ∧ Fr (fun _ => False) w w' := by
 have HX := hide hx
 obtain ⟨xo, xc, rfl⟩ := hx.form
 clear hx
 go_enter Tryz.func29, Tryz.ntmps29
 go_wp2_with fail
 go_loopw [3, 4] (fun av iv wr => ∃ (j : Nat) (ao : Option Addr) (cap : Nat), j ≤ V.length ∧ iv = .int .i64 (j : Nat) ∧ av = .slice ao j cap ∧ wr.ownsRow w.heap.size 75 4 (.slice ao j cap) j (vgc (V.take j)) ∧ Fr (fun _ => False) w wr) (fun _ iv _ => V.length - (intOf iv).toNat)
 case atStart => exact ⟨0, none, 0, Nat.zero_le _, rfl, rfl, World.ownsRow_nil _ _ _ _, Fr.refl _ _⟩
 case round =>
  obtain ⟨j, ao, cap, hj, rfl, rfl, hown, hfr⟩ := hrel
  have hlen : (V.take j).length = j := by simp; omega
  by_cases hlt : j < V.length
  ·obtain ⟨g, o, rfl, hc⟩ := ((unhide HX).frS hfr (fun _ _ h => h)).at_ (by omega)
   obtain ⟨P, hPe⟩ : ∃ P, V[j] = P := ⟨_, rfl⟩
   have hPe2 : V[j]? = some P := by rw [List.getElem?_eq_getElem hlt, hPe]
   have hat := vgc_at V j P hPe2
   have c0 := hc (j * 4) _ (by have := hat 0 (by omega); simpa [GV.cs] using this)
   have c1 := hc (j * 4 + 1) _ (by have := hat 1 (by omega); simpa [GV.cs] using this)
   have c2 := hc (j * 4 + 2) _ (by have := hat 2 (by omega); simpa [GV.cs] using this)
   have c3 := hc (j * 4 + 3) _ (by have := hat 3 (by omega); simpa [GV.cs] using this)
   rw [← Nat.add_assoc] at c1 c2 c3
   have htk : V.take (j + 1) = V.take j ++ [P] := by rw [List.take_add_one, hPe2]; rfl
   have hone : P.one := h1 P (List.mem_of_getElem? hPe2)
   obtain ⟨⟨au, ev, F, rd⟩, fv⟩ := P
   obtain ⟨ao2, cap2, w2, hr, hown2, hf2⟩ := app_GV (wr.alloc (.cells #[.int .u32 (au : Nat), .int .u32 (ev : Nat), fv, .bool rd] 75)) w.heap.size wr.heap.size (.slice ao j cap) (V.take j) ⟨⟨au, ev, F, rd⟩, fv⟩ (by rw [hlen]; exact hown.alloc _) (by have := hfr.size; simp; omega) (by omega) Array.getElem?_push_size (GV.one_cs hone)
   rw [hlen] at hr hown2
   rw [← htk] at hown2
   have hf3 : Fr (fun _ => False) w w2 := (hfr.trans (box1 wr _) (fun _ _ h => h)).absorb hf2 (fun k hk => (hown.lt k hk).1)
   have HR := hide hr
   have HO := hide (And.intro hown2 hf3)
   simp only at c0 c1 c2 c3
   have hkl : (j : Int) < (V.length : Int) := by omega
   clear hown hfr hPe htk hr hown2 hf2 hf3 hlen hc hat hPe2 hone
   go_wp2_with (at_builtin; refine wpList_app rfl (.tmp 11) (.tmp 16) 76 76 rfl _ _ _ rfl rfl (unhide HR) ?_)
   go_roundw
   case rel => exact ⟨j + 1, ao2, cap2, hlt, by go_num, rfl, (unhide HO).1, (unhide HO).2⟩
   case measure => simp [intOf]; omega
  ·obtain rfl : j = V.length := by omega
   have HO := hide (And.intro hown hfr)
   clear hown hfr
   go_wp2_with fail
   go_ret
   obtain ⟨h1, h2⟩ := unhide HO
   rw [List.take_length] at h1
   exact ⟨_, rfl, h1, h2⟩
theorem heap_two (w : World) (a b : Obj) : ((w.alloc a).alloc b).heap[w.heap.size + 1]? = some b := by
 have e : w.heap.size + 1 = (w.alloc a).heap.size := by simp
 rw [e]
 exact Array.getElem?_push_size
set_option maxRecDepth 100000 in
theorem grefused_any (cl nu ac op rc ve wa ow co : Nat) (xo : Option Addr) (xn xc : Nat) (rs : ByteArray) (w : World) :
  Calls Tryz.prog 24 #[.agg #[.int .u32 (cl : Nat), .int .u32 (nu : Nat), .int .u32 (ac : Nat), .int .u8 (op : Nat), .int .u32 (rc : Nat), .int .u32 (ve : Nat), .int .u32 (wa : Nat), .int .u32 (ow : Nat), .slice xo xn xc, .string rs], .int .u8 (co : Nat)] w fun e w' => e = .returned (.agg #[.int .u32 (cl : Nat), .int .u32 (nu : Nat), .int .u8 (co : Nat), .int .u32 0, .int .u32 0, .slice none 0 0, .slice none 0 0]) ∧ Fr (fun _ => False) w w' := by
 go_enter Tryz.func24, Tryz.ntmps24
 go_wp2_with fail
 refine bodyPost_ret (results_cell_mid rfl _ _ (w.heap.size + 1) 0 [.int .u32 (cl : Nat), .int .u32 (nu : Nat), .int .u8 (co : Nat), .int .u32 0, .int .u32 0, .slice none 0 0, .slice none 0 0] _ rfl (range_of_block (t := 45) ?_) Tryz.underlying45 rfl (by kernel_rfl)) rfl ?_
 ·exact heap_two w _ _
 ·exact ⟨rfl, (Fr.refl _ _).alloc _ |>.alloc _⟩
structure PB (w W1 wr : World) (sv : Value) (ao : Option Addr) (n cap : Nat) (L : List GC) : Prop where
 b : wr.heap[w.heap.size + 3]? = some (.cells #[sv, .slice ao n cap] 36)
 o : wr.ownsRow (w.heap.size + 4) 78 5 (.slice ao n cap) n (cgc L)
 f : Fr (fun k => k = w.heap.size + 3) W1 wr
 z : w.heap.size + 4 ≤ wr.heap.size
theorem PB.next {w W1 wr wa w2 : World} {sv : Value} {ao ao2 : Option Addr} {n cap cap2 : Nat} {L : List GC} {p : GC} (h : PB w W1 wr sv ao n cap L) (ha : Fr (fun _ => False) wr wa) (ho : w2.ownsRow (w.heap.size + 4) 78 5 (.slice ao2 (n + 1) cap2) (n + 1) (cgc (L ++ [p]))) (hf : Fr (fun g => (Value.slice ao n cap).ownBlock = some g) wa w2) (hW : W1.heap.size = w.heap.size + 4) :
  w2.heap[w.heap.size + 3]? = some (.cells #[sv, .slice ao n cap] 36) ∧ PB w W1 (w2.setCell ⟨w.heap.size + 3, 1, none⟩ (.slice ao2 (n + 1) cap2)) sv ao2 (n + 1) cap2 (L ++ [p]) := by
 have hl := lt_of_block h.b
 have e1 := (ha.block _ hl (fun h => h)).trans h.b
 have hne : ∀ g, (Value.slice ao n cap).ownBlock = some g → g ≠ w.heap.size + 3 := fun g hg e => by have := (h.o.lt g hg).1; omega
 have e2 := (hf.block _ (lt_of_block e1) (fun h => hne _ h rfl)).trans e1
 have hne2 : ∀ g, (Value.slice ao2 (n + 1) cap2).ownBlock = some g → g ≠ w.heap.size + 3 := fun g hg e => by have := (ho.lt g hg).1; omega
 have hfs : Fr (fun k => k = w.heap.size + 3) w2 (w2.setCell ⟨w.heap.size + 3, 1, none⟩ (.slice ao2 (n + 1) cap2)) := (Fr.refl (fun k => k = w.heap.size + 3) w2).setCell (p := ⟨w.heap.size + 3, 1, none⟩) (.inl rfl) _
 refine ⟨e2, ⟨?_, ownsRow_of_block ho (fun g hg => hfs.block g (ho.lt g hg).2 (hne2 g hg)), ?_, by have := h.z; have := ha.size; have := hf.size; have := hfs.size; omega⟩⟩
 ·have := heap_setCell_same w2 (w.heap.size + 3) 1 _ 36 (.slice ao2 (n + 1) cap2) e2
  simpa using this
 ·have h1 : Fr (fun k => k = w.heap.size + 3) W1 wa := h.f.trans (ha.mono (fun _ _ h => h.elim)) (fun _ _ h => h)
  refine ⟨hfs.os.trans (hf.os.trans h1.os), hfs.tape.trans (hf.tape.trans h1.tape), hfs.output.trans (hf.output.trans h1.output), Nat.le_trans h1.size (Nat.le_trans hf.size hfs.size), fun k hk hk3 => ?_⟩
  have hk4 : k < wa.heap.size := Nat.lt_of_lt_of_le hk h1.size
  exact (hfs.block k (Nat.lt_of_lt_of_le hk4 hf.size) hk3).trans ((hf.block k hk4 (fun e => by have := (h.o.lt k e).1; omega)).trans (h1.block k hk hk3))
def putL (L : List GC) (i : Nat) (x : GC) : List GC := if i = L.length then L ++ [x] else L.set i x
set_option maxHeartbeats 4000000 in
set_option maxRecDepth 100000 in
theorem gput_any (so : Option Addr) (sn sc : Nat) (rv : Value) (L : List GC) (i : Nat) (x : GC) (w : World) (hr : Rd w 5 rv L.length (cgc L)) (h1 : ∀ y ∈ L, y.one) (hx1 : x.one) (hl : L.length ≤ 1000000) (hi : i ≤ L.length) :
  Calls Tryz.prog 27 #[.agg #[.slice so sn sc, rv], .int .i64 (i : Nat), .agg #[.int .u32 (x.wa : Nat), .int .u32 (x.ow : Nat), .bool x.sl, x.gv, x.vv]] w fun e w' => ∃ v, e = .returned (.agg #[.slice so sn sc, v]) ∧ w'.ownsRow w.heap.size 78 5 v (putL L i x).length (cgc (putL L i x)) ∧ Fr (fun _ => False) w w' := by
 obtain ⟨ro, rc, rfl⟩ := hr.form
 obtain ⟨W1, hW1⟩ : ∃ W1, W1 = (((w.alloc (.cells #[.slice so sn sc, .slice ro L.length rc] 36)).alloc (.cells #[.int .u32 (x.wa : Nat), .int .u32 (x.ow : Nat), .bool x.sl, x.gv, x.vv] 78)).alloc (.cells #[.slice none 0 0, .slice none 0 0] 36)).alloc (.cells #[.slice so sn sc, .slice none 0 0] 36) := ⟨_, rfl⟩
 have hz1 : W1.heap.size = w.heap.size + 4 := by rw [hW1]; simp
 have hf1 : Fr (fun _ => False) w W1 := by rw [hW1]; exact (((box1 w _).alloc _).alloc _).alloc _
 have k0 : W1.heap[w.heap.size]? = some (.cells #[.slice so sn sc, .slice ro L.length rc] 36) := by rw [hW1]; exact ((((Fr.refl (fun _ => False) _).alloc _).alloc _).alloc _ |>.block _ (by simp) (fun h => h)).trans Array.getElem?_push_size
 have k1 : W1.heap[w.heap.size + 1]? = some (.cells #[.int .u32 (x.wa : Nat), .int .u32 (x.ow : Nat), .bool x.sl, x.gv, x.vv] 78) := by rw [hW1]; exact (((Fr.refl (fun _ => False) _).alloc _).alloc _ |>.block _ (by simp) (fun h => h)).trans (heap_two w _ _)
 have k2 : W1.heap[w.heap.size + 2]? = some (.cells #[.slice none 0 0, .slice none 0 0] 36) := by
  rw [hW1]
  refine ((box1 _ _).block _ (by simp) (fun h => h)).trans ?_
  have e := heap_two (w.alloc (.cells #[.slice so sn sc, .slice ro L.length rc] 36)) (.cells #[.int .u32 (x.wa : Nat), .int .u32 (x.ow : Nat), .bool x.sl, x.gv, x.vv] 78) (.cells #[.slice none 0 0, .slice none 0 0] 36)
  simpa using e
 have k3 : W1.heap[w.heap.size + 3]? = some (.cells #[.slice so sn sc, .slice none 0 0] 36) := by
  rw [hW1]
  have e := heap_two ((w.alloc (.cells #[.slice so sn sc, .slice ro L.length rc] 36)).alloc (.cells #[.int .u32 (x.wa : Nat), .int .u32 (x.ow : Nat), .bool x.sl, x.gv, x.vv] 78)) (.cells #[.slice none 0 0, .slice none 0 0] 36) (.cells #[.slice so sn sc, .slice none 0 0] 36)
  simpa using e
 have H1 := hide (And.intro k0 (And.intro k1 (And.intro k2 (And.intro k3 (And.intro hf1 hz1)))))
 have HR0 := hide (And.intro hr (And.intro h1 hx1))
 clear k0 k1 k2 k3 hf1 hz1 hr h1 hx1
 go_enter Tryz.func27, Tryz.ntmps27
 go_wp2_with fail
 rw [← hW1]
 clear hW1
 go_loopw [8] (fun iv wr => ∃ (j : Nat) (ao : Option Addr) (cap : Nat), j ≤ L.length ∧ iv = .int .i64 (j : Nat) ∧ PB w W1 wr (.slice so sn sc) ao j cap ((L.set i x).take j)) (fun iv _ => L.length - (intOf iv).toNat)
 case atStart => exact ⟨0, none, 0, Nat.zero_le _, rfl, ⟨(unhide H1).2.2.2.1, World.ownsRow_nil _ _ _ _, Fr.refl _ _, by rw [(unhide H1).2.2.2.2.2]; exact Nat.le_refl _⟩⟩
 case round =>
  obtain ⟨j, ao, cap, hj, rfl, hpb⟩ := hrel
  have hlow : ∀ k, k ≤ w.heap.size + 2 → ¬ k = w.heap.size + 3 := fun k hk => by omega
  have q0 := (hpb.f.block _ (lt_of_block (unhide H1).1) (hlow _ (by omega))).trans (unhide H1).1
  have q1 := (hpb.f.block _ (lt_of_block (unhide H1).2.1) (hlow _ (by omega))).trans (unhide H1).2.1
  have q2 := (hpb.f.block _ (lt_of_block (unhide H1).2.2.1) (hlow _ (by omega))).trans (unhide H1).2.2.1
  have b01 : wr.cell? ⟨w.heap.size, 1, none⟩ = some (.slice ro L.length rc) := by simp [World.cell?, q0]
  have b31 : wr.cell? ⟨w.heap.size + 3, 1, none⟩ = some (.slice ao j cap) := by simp [World.cell?, hpb.b]
  have b30 : wr.cell? ⟨w.heap.size + 3, 0, none⟩ = some (.slice so sn sc) := by simp [World.cell?, hpb.b]
  have z31 : wr.frozen? ⟨w.heap.size + 3, 1, none⟩ = false := by simp [World.frozen?, hpb.b]
  have hlen : ((L.set i x).take j).length = j := by simp; omega
  by_cases hlt : j < L.length
  ·have hkl : (j : Int) < (L.length : Int) := by omega
   by_cases hij : j = i
   ·have hP : (L.set i x)[j]? = some x := by rw [hij]; exact List.getElem?_set_self (by omega)
    have htk : (L.set i x).take (j + 1) = (L.set i x).take j ++ [x] := by rw [List.take_add_one, hP]; rfl
    obtain ⟨wa, hwa⟩ : ∃ wa, wa = wr.alloc (.cells #[.int .u32 (x.wa : Nat), .int .u32 (x.ow : Nat), .bool x.sl, x.gv, x.vv] 78) := ⟨_, rfl⟩
    have hfa : Fr (fun _ => False) wr wa := by rw [hwa]; exact box1 wr _
    obtain ⟨ao2, cap2, w2, hr2, ho2, hf2⟩ := app_GC wa (w.heap.size + 4) wr.heap.size (.slice ao j cap) ((L.set i x).take j) x (by rw [hlen]; exact ownsRow_of_block hpb.o (fun g hg => hfa.block g (hpb.o.lt g hg).2 (fun h => h))) (by have := hpb.z; have := hfa.size; omega) (by omega) (by rw [hwa]; exact Array.getElem?_push_size) (GC.one_cs (unhide HR0).2.2)
    rw [hlen] at hr2 ho2
    obtain ⟨e2, hnx⟩ := hpb.next hfa ho2 hf2 (unhide H1).2.2.2.2.2
    rw [← htk] at hnx
    have c31 : w2.cell? ⟨w.heap.size + 3, 1, none⟩ = some (.slice ao j cap) := by simp [World.cell?, e2]
    have y31 : w2.frozen? ⟨w.heap.size + 3, 1, none⟩ = false := by simp [World.frozen?, e2]
    have a0 : wr.cell? ⟨w.heap.size + 1, 0, none⟩ = some (.int .u32 (x.wa : Nat)) := by simp [World.cell?, q1]
    have a1 : wr.cell? ⟨w.heap.size + 1, 1, none⟩ = some (.int .u32 (x.ow : Nat)) := by simp [World.cell?, q1]
    have a2 : wr.cell? ⟨w.heap.size + 1, 2, none⟩ = some (.bool x.sl) := by simp [World.cell?, q1]
    have a3 : wr.cell? ⟨w.heap.size + 1, 3, none⟩ = some x.gv := by simp [World.cell?, q1]
    have a4 : wr.cell? ⟨w.heap.size + 1, 4, none⟩ = some x.vv := by simp [World.cell?, q1]
    rw [hwa] at hr2
    have HR := hide hr2
    have HN := hide hnx
    have hij2 : (j : Int) = (i : Int) := by omega
    clear hpb q0 q1 q2 hlen hP htk hfa hr2 ho2 hf2 e2 hnx hwa hij hlow b30
    rw [← hij2]
    clear hij2
    go_wp2_with (at_builtin; refine wpList_app rfl (.tmp 23) (.tmp 25) 34 34 rfl _ _ _ rfl rfl (unhide HR) ?_)
    go_roundw
    case rel => exact ⟨j + 1, ao2, cap2, hlt, by go_num, unhide HN⟩
    case measure => simp [intOf]; omega
   ·obtain ⟨g, o, rfl, hc⟩ := ((unhide HR0).1.frS ((unhide H1).2.2.2.2.1.absorb hpb.f (fun k hk => by omega)) (fun _ _ h => h)).at_ (by omega)
    obtain ⟨P, hPe⟩ : ∃ P, L[j] = P := ⟨_, rfl⟩
    have hPe2 : L[j]? = some P := by rw [List.getElem?_eq_getElem hlt, hPe]
    have hP : (L.set i x)[j]? = some P := by rw [List.getElem?_set_ne (fun e => hij e.symm)]; exact hPe2
    have htk : (L.set i x).take (j + 1) = (L.set i x).take j ++ [P] := by rw [List.take_add_one, hP]; rfl
    have hat := cgc_at L j P hPe2
    have c0 := hc (j * 5) _ (by have := hat 0 (by omega); simpa [GC.cs] using this)
    have c1 := hc (j * 5 + 1) _ (by have := hat 1 (by omega); simpa [GC.cs] using this)
    have c2 := hc (j * 5 + 2) _ (by have := hat 2 (by omega); simpa [GC.cs] using this)
    have c3 := hc (j * 5 + 3) _ (by have := hat 3 (by omega); simpa [GC.cs] using this)
    have c4 := hc (j * 5 + 4) _ (by have := hat 4 (by omega); simpa [GC.cs] using this)
    rw [← Nat.add_assoc] at c1 c2 c3 c4
    have hgl : g < wr.heap.size := lt_of_cell c0
    obtain ⟨za, hza⟩ : ∃ za, za = wr.heap.size := ⟨_, rfl⟩
    obtain ⟨wa, hWa⟩ : ∃ wa, wa = (wr.alloc (.cells #[.int .u32 (P.wa : Nat), .int .u32 (P.ow : Nat), .bool P.sl, P.gv, P.vv] 78)).drew := ⟨_, rfl⟩
    have hfa : Fr (fun _ => False) wr wa := by rw [hWa]; exact (box1 wr _).drew
    obtain ⟨ao2, cap2, w2, hr2, ho2, hf2⟩ := app_GC wa (w.heap.size + 4) za (.slice ao j cap) ((L.set i x).take j) P (by rw [hlen]; exact ownsRow_of_block hpb.o (fun g hg => hfa.block g (hpb.o.lt g hg).2 (fun h => h))) (by have := hpb.z; have := hfa.size; omega) (by omega) (by rw [hWa, hza]; exact Array.getElem?_push_size) (GC.one_cs ((unhide HR0).2.1 P (List.mem_of_getElem? hPe2)))
    rw [hlen] at hr2 ho2
    obtain ⟨e2, hnx⟩ := hpb.next hfa ho2 hf2 (unhide H1).2.2.2.2.2
    rw [← htk] at hnx
    have hfb : Fr (fun k => (Value.slice ao j cap).ownBlock = some k) wr w2 := (hfa.mono (fun _ _ h => h.elim)).trans hf2 (fun _ _ h => h)
    have c31 : w2.cell? ⟨w.heap.size + 3, 1, none⟩ = some (.slice ao j cap) := by simp [World.cell?, e2]
    have y31 : w2.frozen? ⟨w.heap.size + 3, 1, none⟩ = false := by simp [World.frozen?, e2]
    have hg4 : ∀ g', (Value.slice ao j cap).ownBlock = some g' → w.heap.size + 4 ≤ g' := fun g' hg' => (hpb.o.lt g' hg').1
    have hgw : g < w.heap.size := by
     have h9 := (unhide HR0).1.at_ (by omega)
     obtain ⟨g', o', e', hc'⟩ := h9
     cases e'
     exact lt_of_cell (hc' (j * 5) _ (by have := hat 0 (by omega); simpa [GC.cs] using this))
    have hl3 := lt_of_block hpb.b
    have HS : Hid (∀ W, Fr (fun k => (Value.slice ao j cap).ownBlock = some k) wr W → W.cell? ⟨w.heap.size + 3, 1, none⟩ = some (.slice ao j cap) ∧ W.cell? ⟨w.heap.size, 1, none⟩ = some (.slice (some ⟨g, o, none⟩) L.length rc) ∧ W.cell? ⟨g, o + j * 5, none⟩ = some (.int .u32 (P.wa : Nat)) ∧ W.cell? ⟨g, o + j * 5 + 1, none⟩ = some (.int .u32 (P.ow : Nat)) ∧ W.cell? ⟨g, o + j * 5 + 2, none⟩ = some (.bool P.sl) ∧ W.cell? ⟨g, o + j * 5 + 3, none⟩ = some P.gv ∧ W.cell? ⟨g, o + j * 5 + 4, none⟩ = some P.vv) := fun W hW => by
     have n0 : ∀ k, k < w.heap.size + 4 → ¬ (Value.slice ao j cap).ownBlock = some k := fun k hk e => by have := hg4 k e; omega
     exact ⟨(hW.cell (p := ⟨w.heap.size + 3, 1, none⟩) hl3 (n0 _ (by show w.heap.size + 3 < _; omega))).trans b31, (hW.cell (p := ⟨w.heap.size, 1, none⟩) (by show w.heap.size < _; omega) (n0 _ (by show w.heap.size < _; omega))).trans b01, (hW.cell (p := ⟨g, _, none⟩) hgl (n0 g (by omega))).trans c0, (hW.cell (p := ⟨g, _, none⟩) hgl (n0 g (by omega))).trans c1, (hW.cell (p := ⟨g, _, none⟩) hgl (n0 g (by omega))).trans c2, (hW.cell (p := ⟨g, _, none⟩) hgl (n0 g (by omega))).trans c3, (hW.cell (p := ⟨g, _, none⟩) hgl (n0 g (by omega))).trans c4⟩
    have FA : Hid (Fr (fun k => (Value.slice ao j cap).ownBlock = some k) wr wa) := hfa.mono (fun _ _ h => h.elim)
    have FB := hide hfb
    have HR := hide hr2
    have HN := hide hnx
    have hij2 : ¬ (j : Int) = (i : Int) := by omega
    clear hpb q0 q1 q2 hlen hP htk hfa hr2 ho2 hf2 e2 hnx hlow b30 hc hat hPe hPe2 hfb hg4 hij c0 c1 c2 c3 c4 hgw hl3
    go_wp2_with fail
    refine wp_region_last (n := 10) (m := 10) (S := (fun W => W.cell? ⟨w.heap.size + 3, 1, none⟩ = some (.slice ao j cap) ∧ W.cell? ⟨w.heap.size, 1, none⟩ = some (.slice (some ⟨g, o, none⟩) L.length rc) ∧ W.cell? ⟨g, o + j * 5, none⟩ = some (.int .u32 (P.wa : Nat)) ∧ W.cell? ⟨g, o + j * 5 + 1, none⟩ = some (.int .u32 (P.ow : Nat)) ∧ W.cell? ⟨g, o + j * 5 + 2, none⟩ = some (.bool P.sl) ∧ W.cell? ⟨g, o + j * 5 + 3, none⟩ = some P.gv ∧ W.cell? ⟨g, o + j * 5 + 4, none⟩ = some P.vv)) (by kernel_rfl) rfl rfl rfl (by kernel_rfl) (by kernel_rfl) ((unhide HS) _ (Fr.refl _ _).drew) (fun hHeld => ?_)
    refine wtk2 (i := 0) rfl hHeld ?_
    (try simp only [Act.put, nrm])
    refine wtk2 (i := 1) rfl hHeld ?_
    (try simp only [Act.put, nrm])
    refine wtk2 (i := 2) rfl hHeld ?_
    (try simp only [Act.put, nrm])
    refine wtk2 (i := 3) rfl hHeld ?_
    (try simp only [Act.put, nrm])
    refine wtk2 (i := 4) rfl hHeld ?_
    (try simp only [Act.put, nrm])
    refine wtk2 (i := 5) rfl hHeld ?_
    (try simp only [Act.put, nrm])
    refine wtk2 (i := 6) rfl hHeld ?_
    (try simp only [Act.put, nrm])
    refine wpAnyH_ready (rs := [7]) (by kernel_rfl) (by simp) (AllReadyH.cons rfl (fun K hK => ?_) (AllReadyH.nil))
    go_simp
    rw [← hWa, ← hza]
    refine hK.out _ _ ((unhide HS) _ (unhide FA)) (fun hHeld => ?_)
    clear hK K
    (try simp only [Act.put, nrm])
    refine wpAnyH_ready (rs := [8]) (by kernel_rfl) (by simp) (AllReadyH.cons rfl (fun K hK => ?_) (AllReadyH.nil))
    refine step_app rfl (.tmp 29) (.tmp 35) 34 34 rfl _ _ _ (by simp [Act.eval]) (by simp [Act.eval]) (unhide HR) ?_
    refine hK.out _ _ ((unhide HS) _ (unhide FB)) (fun hHeld => ?_)
    clear hK K
    (try simp only [Act.put, nrm])
    refine wtk2 (i := 9) rfl hHeld ?_
    (try simp only [Act.put, nrm])
    refine wpAnyH_done (by kernel_rfl) ?_ _
    simp only [lastQ]
    clear hWa hza
    go_simp
    go_wp2_with fail
    go_roundw
    case rel => exact ⟨j + 1, ao2, cap2, hlt, by go_num, unhide HN⟩
    case measure => simp [intOf]; omega
  ·obtain rfl : j = L.length := by omega
   have r20 : wr.cell? ⟨w.heap.size + 2, 0, none⟩ = some (.slice none 0 0) := by simp [World.cell?, q2]
   have r21 : wr.cell? ⟨w.heap.size + 2, 1, none⟩ = some (.slice none 0 0) := by simp [World.cell?, q2]
   have y20 : wr.frozen? ⟨w.heap.size + 2, 0, none⟩ = false := by simp [World.frozen?, q2]
   have y21 : wr.frozen? ⟨w.heap.size + 2, 1, none⟩ = false := by simp [World.frozen?, q2]
   by_cases hil : i = L.length
   ·subst hil
    rw [show L.set L.length x = L from List.set_eq_of_length_le (Nat.le_refl _), List.take_length] at hpb
    obtain ⟨wa, hwa⟩ : ∃ wa, wa = wr.alloc (.cells #[.int .u32 (x.wa : Nat), .int .u32 (x.ow : Nat), .bool x.sl, x.gv, x.vv] 78) := ⟨_, rfl⟩
    have hfa : Fr (fun _ => False) wr wa := by rw [hwa]; exact box1 wr _
    obtain ⟨ao2, cap2, w2, hr2, ho2, hf2⟩ := app_GC wa (w.heap.size + 4) wr.heap.size (.slice ao L.length cap) L x (ownsRow_of_block hpb.o (fun g hg => hfa.block g (hpb.o.lt g hg).2 (fun h => h))) (by have := hpb.z; have := hfa.size; omega) (by omega) (by rw [hwa]; exact Array.getElem?_push_size) (GC.one_cs (unhide HR0).2.2)
    obtain ⟨e2, hnx⟩ := hpb.next hfa ho2 hf2 (unhide H1).2.2.2.2.2
    have hg4 : ∀ g', (Value.slice ao L.length cap).ownBlock = some g' → w.heap.size + 4 ≤ g' := fun g' hg' => (hpb.o.lt g' hg').1
    have e5 := (hf2.block (w.heap.size + 2) (Nat.lt_of_lt_of_le (lt_of_block q2) hfa.size) (fun h => by have := hg4 _ h; omega)).trans ((hfa.block _ (lt_of_block q2) (fun h => h)).trans q2)
    have c30 : w2.cell? ⟨w.heap.size + 3, 0, none⟩ = some (.slice so sn sc) := by simp [World.cell?, e2]
    have c31 : w2.cell? ⟨w.heap.size + 3, 1, none⟩ = some (.slice ao L.length cap) := by simp [World.cell?, e2]
    have y31 : w2.frozen? ⟨w.heap.size + 3, 1, none⟩ = false := by simp [World.frozen?, e2]
    have s20 : w2.cell? ⟨w.heap.size + 2, 0, none⟩ = some (.slice none 0 0) := by simp [World.cell?, e5]
    have s21 : w2.cell? ⟨w.heap.size + 2, 1, none⟩ = some (.slice none 0 0) := by simp [World.cell?, e5]
    have t20 : w2.frozen? ⟨w.heap.size + 2, 0, none⟩ = false := by simp [World.frozen?, e5]
    have t21 : w2.frozen? ⟨w.heap.size + 2, 1, none⟩ = false := by simp [World.frozen?, e5]
    have a0 : wr.cell? ⟨w.heap.size + 1, 0, none⟩ = some (.int .u32 (x.wa : Nat)) := by simp [World.cell?, q1]
    have a1 : wr.cell? ⟨w.heap.size + 1, 1, none⟩ = some (.int .u32 (x.ow : Nat)) := by simp [World.cell?, q1]
    have a2 : wr.cell? ⟨w.heap.size + 1, 2, none⟩ = some (.bool x.sl) := by simp [World.cell?, q1]
    have a3 : wr.cell? ⟨w.heap.size + 1, 3, none⟩ = some x.gv := by simp [World.cell?, q1]
    have a4 : wr.cell? ⟨w.heap.size + 1, 4, none⟩ = some x.vv := by simp [World.cell?, q1]
    have e6 : (w2.setCell ⟨w.heap.size + 3, 1, none⟩ (.slice ao2 (L.length + 1) cap2)).heap[w.heap.size + 2]? = some (.cells #[.slice none 0 0, .slice none 0 0] 36) := (((Fr.refl (fun k => k = w.heap.size + 3) w2).setCell (p := ⟨w.heap.size + 3, 1, none⟩) (.inl rfl) (.slice ao2 (L.length + 1) cap2)).block _ (lt_of_block e5) (by omega)).trans e5
    rw [hwa] at hr2
    have HR := hide hr2
    have HN := hide (And.intro hnx e6)
    clear hpb q0 q1 q2 hlen hfa hr2 ho2 hf2 e2 hnx hwa hlow e5 hg4 e6
    go_wp2_with (at_builtin; refine wpList_app rfl (.tmp 44) (.tmp 46) 34 34 rfl _ _ _ rfl rfl (unhide HR) ?_)
    have m0 := heap_setCell_same _ (w.heap.size + 2) 0 _ 36 (.slice so sn sc) (unhide HN).2
    have m1 := heap_setCell_same _ (w.heap.size + 2) 1 _ 36 (.slice ao2 (L.length + 1) cap2) m0
    have hfr := ((Fr.refl (fun k => k = w.heap.size + 2) (w2.setCell ⟨w.heap.size + 3, 1, none⟩ (.slice ao2 (L.length + 1) cap2))).setCell (p := ⟨w.heap.size + 2, 0, none⟩) (.inl rfl) (.slice so sn sc)).setCell (p := ⟨w.heap.size + 2, 1, none⟩) (.inl rfl) (.slice ao2 (L.length + 1) cap2)
    refine bodyPost_ret (results_cell_mid rfl _ _ (w.heap.size + 2) 0 [.slice so sn sc, .slice ao2 (L.length + 1) cap2] _ rfl (range_of_block (t := 36) (by simpa using m1)) Tryz.underlying36 rfl (by kernel_rfl)) rfl ?_
    refine ⟨_, rfl, ?_, ((unhide H1).2.2.2.2.1.absorb (unhide HN).1.f (fun k hk => by omega)).absorb hfr (fun k hk => by omega)⟩
    ·rw [show putL L L.length x = L ++ [x] from if_pos rfl, List.length_append, List.length_singleton]
     exact ownsRow_base (ownsRow_of_block (unhide HN).1.o (fun g hg => hfr.block g ((unhide HN).1.o.lt g hg).2 (fun e => by have := ((unhide HN).1.o.lt g hg).1; omega))) (by omega)
   ·have hil2 : ¬ (i : Int) = (L.length : Int) := by omega
    have hpb2 := hpb
    rw [show (L.set i x).take L.length = L.set i x by rw [List.take_of_length_le (by simp)]] at hpb2
    have HN := hide (And.intro hpb2 q2)
    have HI := hide hil
    clear hpb hpb2 q0 q1 q2 hlen hlow hil
    go_wp2_with fail
    have m0 := heap_setCell_same _ (w.heap.size + 2) 0 _ 36 (.slice so sn sc) (unhide HN).2
    have m1 := heap_setCell_same _ (w.heap.size + 2) 1 _ 36 (.slice ao L.length cap) m0
    have hfr := ((Fr.refl (fun k => k = w.heap.size + 2) wr).setCell (p := ⟨w.heap.size + 2, 0, none⟩) (.inl rfl) (.slice so sn sc)).setCell (p := ⟨w.heap.size + 2, 1, none⟩) (.inl rfl) (.slice ao L.length cap)
    refine bodyPost_ret (results_cell_mid rfl _ _ (w.heap.size + 2) 0 [.slice so sn sc, .slice ao L.length cap] _ rfl (range_of_block (t := 36) (by simpa using m1)) Tryz.underlying36 rfl (by kernel_rfl)) rfl ?_
    refine ⟨_, rfl, ?_, ((unhide H1).2.2.2.2.1.absorb (unhide HN).1.f (fun k hk => by omega)).absorb hfr (fun k hk => by omega)⟩
    ·rw [show putL L i x = L.set i x from if_neg (unhide HI), List.length_set]
     exact ownsRow_base (ownsRow_of_block (unhide HN).1.o (fun g hg => hfr.block g ((unhide HN).1.o.lt g hg).2 (fun e => by have := ((unhide HN).1.o.lt g hg).1; omega))) (by omega)
end Go.Proofs.YtiknjghcjaaenaaGreatDoor
namespace Go.Proofs.YtiknjghcjaaenaaGreatDoor
open Go.RowKit
def fndI (S : List P3) (k : Nat) : Int := match fnd S k with
 | some j => (j : Int)
 | none => -1
set_option maxRecDepth 100000 in
theorem gfind_any (x : Value) (l : List P3) (k : Nat) (w : World) (hx : Stf w x l) (hl : l.length ≤ 140737488355328) :
  Calls Tryz.prog 25 #[x, .int .u32 (k : Nat)] w fun e w' => e = .returned (.int .i64 (fndI l k)) ∧ w' = w := by
 have HX := hide hx
 obtain ⟨xo, xc, rfl⟩ := hx.form
 clear hx
 go_enter Tryz.func25, Tryz.ntmps25
 go_wp2_with fail
 go_loopw [5] (fun iv wr => ∃ j : Nat, j ≤ l.length ∧ iv = .int .i64 (j : Nat) ∧ (∀ i (hi : i < l.length), i < j → l[i].a ≠ k) ∧ wr = w) (fun iv _ => l.length - (intOf iv).toNat)
 case atStart => exact ⟨0, Nat.zero_le _, rfl, fun i _ h => by omega, rfl⟩
 case round =>
  obtain ⟨j, hj, rfl, hno, rfl⟩ := hrel
  have HF := hide hno
  clear hno
  by_cases hlt : j < l.length
  ·obtain ⟨g, o, rfl, c0, c1, c2⟩ := (unhide HX).at_ j hlt
   clear c1 c2
   obtain ⟨a, ha⟩ : ∃ a, l[j].a = a := ⟨_, rfl⟩
   rw [ha] at c0
   have HA := hide ha
   clear ha
   by_cases hk : a = k
   ·have HE := hide (fnd_at hlt (unhide HF) ((unhide HA).trans hk)).1
    subst hk
    go_wp2_with fail
    go_ret
    exact ⟨by rw [fndI, unhide HE]; rfl, rfl⟩
   ·go_wp2_with fail
    go_roundw
    case rel =>
     refine ⟨j + 1, hlt, rfl, fun i hi h => ?_, trivial⟩
     rcases Nat.lt_or_ge i j with h1 | h1
     ·exact (unhide HF) i hi h1
     ·obtain rfl : i = j := by omega
      rw [unhide HA]; exact hk
    case measure => simp [intOf]; omega
  ·have HE := hide (fnd_no (l := l) (k := k) (fun i hi => (unhide HF) i hi (by omega))).1
   go_wp2_with fail
   go_ret
   exact ⟨by rw [fndI, unhide HE]; rfl, rfl⟩
set_option maxRecDepth 100000 in
theorem ggranted_any (wd ow : Value) (sl : Value) (x : Value) (l : List Nat) (k : Nat) (w : World) (hx : Us w x l) (hl : l.length ≤ 140737488355328) :
  Calls Tryz.prog 65 #[.agg #[wd, ow, sl, x], .int .u32 (k : Nat)] w fun e w' => e = .returned (.bool (decide (k ∈ l))) ∧ Fr (fun _ => False) w w' := by
 have HX := hide hx
 obtain ⟨xo, xc, rfl⟩ := hx.form
 clear hx
 go_enter Tryz.func65, Tryz.ntmps65
 go_wp2_with fail
 obtain ⟨w1, hw1⟩ : ∃ w1, w.alloc (.cells #[wd, ow, sl, .slice xo l.length xc] 73) = w1 := ⟨_, rfl⟩
 have hf1 : Fr (fun _ => False) w w1 := by rw [← hw1]; exact (Fr.refl _ _).alloc _
 have hb1 : w1.heap[w.heap.size]? = some (.cells #[wd, ow, sl, .slice xo l.length xc] 73) := by rw [← hw1]; exact Array.getElem?_push_size
 have b3 : w1.cell? ⟨w.heap.size, 3, none⟩ = some (.slice xo l.length xc) := by simp only [World.cell?, hb1]; rfl
 have HX1 := hide ((unhide HX).fr hf1)
 have HF1 := hide hf1
 rw [hw1]
 clear hw1 hf1 HX hb1
 go_loopw [5] (fun iv wr => ∃ j : Nat, j ≤ l.length ∧ iv = .int .i64 (j : Nat) ∧ (∀ i (hi : i < l.length), i < j → l[i] ≠ k) ∧ wr = w1) (fun iv _ => l.length - (intOf iv).toNat)
 case atStart => exact ⟨0, Nat.zero_le _, rfl, fun i _ h => by omega, rfl⟩
 case round =>
  obtain ⟨j, hj, rfl, hno, rfl⟩ := hrel
  have HF := hide hno
  clear hno
  by_cases hlt : j < l.length
  ·obtain ⟨g, o, rfl, c0⟩ := (unhide HX1).at_ j hlt
   obtain ⟨a, ha⟩ : ∃ a, l[j] = a := ⟨_, rfl⟩
   rw [ha] at c0
   have HA := hide ha
   clear ha
   by_cases hk : a = k
   ·have HM := hide (show k ∈ l by rw [← hk, ← unhide HA]; exact List.getElem_mem hlt)
    subst hk
    go_wp2_with fail
    go_ret
    exact ⟨by simp [unhide HM], unhide HF1⟩
   ·go_wp2_with fail
    go_roundw
    case rel =>
     refine ⟨j + 1, hlt, rfl, fun i hi h => ?_, trivial⟩
     rcases Nat.lt_or_ge i j with h1 | h1
     ·exact (unhide HF) i hi h1
     ·obtain rfl : i = j := by omega
      rw [unhide HA]; exact hk
    case measure => simp [intOf]; omega
  ·have HM := hide (show ¬ k ∈ l from fun h => by
    obtain ⟨i, hi, e⟩ := List.mem_iff_getElem.1 h
    exact (unhide HF) i hi (by omega) e)
   go_wp2_with fail
   go_ret
   exact ⟨by simp [unhide HM], unhide HF1⟩
def gRd (p : P3) (k wd ow : Nat) (sl : Bool) (G : List Nat) : Nat := if k = ow ∨ (p.r = 3 ∧ p.w = wd) then 0 else if (p.r = 2 ∨ p.r = 1) ∧ p.w = wd ∧ sl = false then 0 else if (p.r = 3 ∨ p.r = 2) ∧ k ∈ G then 0 else if (p.r = 2 ∨ p.r = 1) ∧ p.w = wd then 6 else 5
def gRe (p : P3) (k wd ow : Nat) : Nat := if k = ow ∨ (p.r = 3 ∧ p.w = wd) then 0 else 5
def gSe (_p : P3) (k ow : Nat) : Nat := if k = ow then 0 else 5
def gBr (p : P3) (rs : ByteArray) : Nat := if (p.r = 3 ∨ p.r = 2) ∧ rs.toList.isEmpty = false then 0 else 5
set_option maxHeartbeats 2000000 in
set_option maxRecDepth 100000 in
theorem gread_any (sv : Value) (S : List P3) (wd ow : Nat) (sl : Bool) (gv : Value) (G : List Nat) (k : Nat) (w : World) (hS : Stf w sv S) (hl : S.length ≤ 140737488355328) (hG : Us w gv G) (hgl : G.length ≤ 140737488355328) :
  Calls Tryz.prog 43 #[sv, .agg #[.int .u32 (wd : Nat), .int .u32 (ow : Nat), .bool sl, gv], .int .u32 (k : Nat)] w fun e w' => e = .returned (.int .u8 ((ansv S k fun p => gRd p k wd ow sl G : Nat) : Nat)) ∧ Fr (fun _ => False) w w' := by
 have HG := hide (fun W (hf : Fr (fun _ => False) w W) => ggranted_any (.int .u32 (wd : Nat)) (.int .u32 (ow : Nat)) (.bool sl) gv G k W (hG.fr hf) hgl)
 have HF := hide (fun W (hf : Fr (fun _ => False) w W) => gfind_any sv S k W (hS.fr hf) hl)
 obtain ⟨xo, xc, rfl⟩ := hS.form
 obtain ⟨go, gc, rfl⟩ := hG.form
 clear hG
 rcases fnd_cases S k with ⟨h1, h2⟩ | ⟨j, hj, h1, h2, h3⟩
 ·have HV := hide (show (ansv S k fun p => gRd p k wd ow sl G) = 1 by rw [ansv, h2])
  simp only [fndI, h1] at HF
  clear hS h1 h2
  go_enter Tryz.func43, Tryz.ntmps43
  go_wp2_with fail
  refine ((unhide HF) _ ((Fr.refl _ _).alloc _)).mono ?_
  clear HF
  rintro e w2 ⟨rfl, rfl⟩
  go_wp2_with fail
  go_ret
  exact ⟨by rw [unhide HV]; rfl, (Fr.refl _ _).alloc _⟩
 ·obtain ⟨P, hPe⟩ : ∃ P, S[j] = P := ⟨_, rfl⟩
  have HV := hide (show (ansv S k fun p => gRd p k wd ow sl G) = (fun p : P3 => gRd p k wd ow sl G) P by rw [ansv, h2, hPe])
  simp only [fndI, h1] at HF
  obtain ⟨g, o, rfl, c0, c1, c2⟩ := hS.at_ j hj
  rw [hPe] at c0 c1 c2 h3
  have hgl0 : g < w.heap.size := lt_of_cell c0
  clear hS h1 h2 hPe
  obtain ⟨pa, pr, pw⟩ := P
  simp only at c0 c1 c2 h3
  rw [h3] at c0
  clear h3
  go_enter Tryz.func43, Tryz.ntmps43
  go_wp2_with fail
  refine ((unhide HF) _ ((Fr.refl _ _).alloc _)).mono ?_
  clear HF
  rintro e w2 ⟨rfl, rfl⟩
  go_wp2_with fail
  go_quiet (fail)
  by_cases hown : k = ow
  ·subst hown
   go_wp2_with fail
   go_ret
   exact ⟨by rw [unhide HV]; simp [gRd], (by repeat first | exact Fr.refl _ _ | refine Fr.alloc ?_ _ | refine Fr.drew ?_ | refine Fr.drewN ?_ _)⟩
  ·by_cases hr3 : pr = 3
   ·subst hr3
    by_cases hnear : pw = wd
    ·subst hnear
     go_wp2_with fail
     go_ret
     exact ⟨by rw [unhide HV]; simp [gRd, hown], (by repeat first | exact Fr.refl _ _ | refine Fr.alloc ?_ _ | refine Fr.drew ?_ | refine Fr.drewN ?_ _)⟩
    ·have ib : ((pw : Int) == (wd : Int)) = false := by rw [beq_cast]; simp [hnear]
     by_cases hg : k ∈ G
     ·have hD : decide (k ∈ G) = true := by simp [hg]
      rw [hD] at HG
      clear hD
      go_wp2_with fail
      refine Calls.mono (unhide HG _ ?_) ?_
      ·repeat first | exact Fr.refl _ _ | refine Fr.alloc ?_ _ | refine Fr.drew ?_ | refine Fr.drewN ?_ _
      clear HG
      rintro e wq ⟨rfl, hq⟩
      go_wp2_with fail
      go_ret
      exact ⟨by rw [unhide HV]; simp [gRd, hnear, hown, hg], (Fr.trans (by repeat first | exact Fr.refl _ _ | refine Fr.alloc ?_ _ | refine Fr.drew ?_ | refine Fr.drewN ?_ _) hq (fun _ _ h => h))⟩
     ·have hD : decide (k ∈ G) = false := by simp [hg]
      rw [hD] at HG
      clear hD
      go_wp2_with fail
      refine Calls.mono (unhide HG _ ?_) ?_
      ·repeat first | exact Fr.refl _ _ | refine Fr.alloc ?_ _ | refine Fr.drew ?_ | refine Fr.drewN ?_ _
      clear HG
      rintro e wq ⟨rfl, hq⟩
      go_wp2_with fail
      go_ret
      exact ⟨by rw [unhide HV]; simp [gRd, hnear, hown, hg], (Fr.trans (by repeat first | exact Fr.refl _ _ | refine Fr.alloc ?_ _ | refine Fr.drew ?_ | refine Fr.drewN ?_ _) hq (fun _ _ h => h))⟩
   ·have ir3 : ¬ (pr : Int) = 3 := by omega
    by_cases hr2 : pr = 2
    ·subst hr2
     by_cases hnear : pw = wd
     ·subst hnear
      rcases sl with _ | _
      ·go_wp2_with fail
       go_ret
       exact ⟨by rw [unhide HV]; simp [gRd, hown], (by repeat first | exact Fr.refl _ _ | refine Fr.alloc ?_ _ | refine Fr.drew ?_ | refine Fr.drewN ?_ _)⟩
      ·by_cases hg : k ∈ G
       ·have hD : decide (k ∈ G) = true := by simp [hg]
        rw [hD] at HG
        clear hD
        go_wp2_with fail
        refine Calls.mono (unhide HG _ ?_) ?_
        ·repeat first | exact Fr.refl _ _ | refine Fr.alloc ?_ _ | refine Fr.drew ?_ | refine Fr.drewN ?_ _
        clear HG
        rintro e wq ⟨rfl, hq⟩
        go_wp2_with fail
        go_ret
        exact ⟨by rw [unhide HV]; simp [gRd, hown, hg], (Fr.trans (by repeat first | exact Fr.refl _ _ | refine Fr.alloc ?_ _ | refine Fr.drew ?_ | refine Fr.drewN ?_ _) hq (fun _ _ h => h))⟩
       ·have hD : decide (k ∈ G) = false := by simp [hg]
        rw [hD] at HG
        clear hD
        go_wp2_with fail
        refine Calls.mono (unhide HG _ ?_) ?_
        ·repeat first | exact Fr.refl _ _ | refine Fr.alloc ?_ _ | refine Fr.drew ?_ | refine Fr.drewN ?_ _
        clear HG
        rintro e wq ⟨rfl, hq⟩
        go_wp2_with fail
        go_ret
        exact ⟨by rw [unhide HV]; simp [gRd, hown, hg], (Fr.trans (by repeat first | exact Fr.refl _ _ | refine Fr.alloc ?_ _ | refine Fr.drew ?_ | refine Fr.drewN ?_ _) hq (fun _ _ h => h))⟩
     ·have ib : ((pw : Int) == (wd : Int)) = false := by rw [beq_cast]; simp [hnear]
      by_cases hg : k ∈ G
      ·have hD : decide (k ∈ G) = true := by simp [hg]
       rw [hD] at HG
       clear hD
       go_wp2_with fail
       refine Calls.mono (unhide HG _ ?_) ?_
       ·repeat first | exact Fr.refl _ _ | refine Fr.alloc ?_ _ | refine Fr.drew ?_ | refine Fr.drewN ?_ _
       clear HG
       rintro e wq ⟨rfl, hq⟩
       go_wp2_with fail
       go_ret
       exact ⟨by rw [unhide HV]; simp [gRd, hnear, hown, hg], (Fr.trans (by repeat first | exact Fr.refl _ _ | refine Fr.alloc ?_ _ | refine Fr.drew ?_ | refine Fr.drewN ?_ _) hq (fun _ _ h => h))⟩
      ·have hD : decide (k ∈ G) = false := by simp [hg]
       rw [hD] at HG
       clear hD
       go_wp2_with fail
       refine Calls.mono (unhide HG _ ?_) ?_
       ·repeat first | exact Fr.refl _ _ | refine Fr.alloc ?_ _ | refine Fr.drew ?_ | refine Fr.drewN ?_ _
       clear HG
       rintro e wq ⟨rfl, hq⟩
       go_wp2_with fail
       go_ret
       exact ⟨by rw [unhide HV]; simp [gRd, hnear, hown, hg], (Fr.trans (by repeat first | exact Fr.refl _ _ | refine Fr.alloc ?_ _ | refine Fr.drew ?_ | refine Fr.drewN ?_ _) hq (fun _ _ h => h))⟩
    ·have ir2 : ¬ (pr : Int) = 2 := by omega
     by_cases hr1 : pr = 1
     ·subst hr1
      by_cases hnear : pw = wd
      ·subst hnear
       rcases sl with _ | _
       ·go_wp2_with fail
        go_ret
        exact ⟨by rw [unhide HV]; simp [gRd, hown], (by repeat first | exact Fr.refl _ _ | refine Fr.alloc ?_ _ | refine Fr.drew ?_ | refine Fr.drewN ?_ _)⟩
       ·go_wp2_with fail
        go_ret
        exact ⟨by rw [unhide HV]; simp [gRd, hown], (by repeat first | exact Fr.refl _ _ | refine Fr.alloc ?_ _ | refine Fr.drew ?_ | refine Fr.drewN ?_ _)⟩
      ·have ib : ((pw : Int) == (wd : Int)) = false := by rw [beq_cast]; simp [hnear]
       go_wp2_with fail
       go_ret
       exact ⟨by rw [unhide HV]; simp [gRd, hnear, hown], (by repeat first | exact Fr.refl _ _ | refine Fr.alloc ?_ _ | refine Fr.drew ?_ | refine Fr.drewN ?_ _)⟩
     ·have ir1 : ¬ (pr : Int) = 1 := by omega
      go_wp2_with fail
      go_ret
      exact ⟨by rw [unhide HV]; simp [gRd, hr3, hr2, hr1, hown], (by repeat first | exact Fr.refl _ _ | refine Fr.alloc ?_ _ | refine Fr.drew ?_ | refine Fr.drewN ?_ _)⟩
set_option maxHeartbeats 2000000 in
set_option maxRecDepth 100000 in
theorem gredact_any (sv : Value) (S : List P3) (wd ow : Nat) (sl : Bool) (gv : Value) (k : Nat) (w : World) (hS : Stf w sv S) (hl : S.length ≤ 140737488355328) :
  Calls Tryz.prog 44 #[sv, .agg #[.int .u32 (wd : Nat), .int .u32 (ow : Nat), .bool sl, gv], .int .u32 (k : Nat)] w fun e w' => e = .returned (.int .u8 ((ansv S k fun p => gRe p k wd ow : Nat) : Nat)) ∧ Fr (fun _ => False) w w' := by
 have HF := hide (fun W (hf : Fr (fun _ => False) w W) => gfind_any sv S k W (hS.fr hf) hl)
 obtain ⟨xo, xc, rfl⟩ := hS.form
 rcases fnd_cases S k with ⟨h1, h2⟩ | ⟨j, hj, h1, h2, h3⟩
 ·have HV := hide (show (ansv S k fun p => gRe p k wd ow) = 1 by rw [ansv, h2])
  simp only [fndI, h1] at HF
  clear hS h1 h2
  go_enter Tryz.func44, Tryz.ntmps44
  go_wp2_with fail
  refine ((unhide HF) _ ((Fr.refl _ _).alloc _)).mono ?_
  clear HF
  rintro e w2 ⟨rfl, rfl⟩
  go_wp2_with fail
  go_ret
  exact ⟨by rw [unhide HV]; rfl, (Fr.refl _ _).alloc _⟩
 ·obtain ⟨P, hPe⟩ : ∃ P, S[j] = P := ⟨_, rfl⟩
  have HV := hide (show (ansv S k fun p => gRe p k wd ow) = (fun p : P3 => gRe p k wd ow) P by rw [ansv, h2, hPe])
  simp only [fndI, h1] at HF
  obtain ⟨g, o, rfl, c0, c1, c2⟩ := hS.at_ j hj
  rw [hPe] at c0 c1 c2 h3
  have hgl0 : g < w.heap.size := lt_of_cell c0
  clear hS h1 h2 hPe
  obtain ⟨pa, pr, pw⟩ := P
  simp only at c0 c1 c2 h3
  rw [h3] at c0
  clear h3
  go_enter Tryz.func44, Tryz.ntmps44
  go_wp2_with fail
  refine ((unhide HF) _ ((Fr.refl _ _).alloc _)).mono ?_
  clear HF
  rintro e w2 ⟨rfl, rfl⟩
  by_cases hown : k = ow
  ·subst hown
   go_wp2_with fail
   go_quiet (fail)
   go_wp2_with fail
   go_ret
   exact ⟨by rw [unhide HV]; simp [gRe], (by repeat first | exact Fr.refl _ _ | refine Fr.alloc ?_ _ | refine Fr.drew ?_ | refine Fr.drewN ?_ _)⟩
  ·have io : ((k : Int) == (ow : Int)) = false := by rw [beq_cast]; simp [hown]
   by_cases hr3 : pr = 3
   ·subst hr3
    by_cases hnear : pw = wd
    ·subst hnear
     go_wp2_with fail
     go_quiet (fail)
     go_wp2_with fail
     go_ret
     exact ⟨by rw [unhide HV]; simp [gRe, hown], (by repeat first | exact Fr.refl _ _ | refine Fr.alloc ?_ _ | refine Fr.drew ?_ | refine Fr.drewN ?_ _)⟩
    ·have ib : ((pw : Int) == (wd : Int)) = false := by rw [beq_cast]; simp [hnear]
     go_wp2_with fail
     go_quiet (fail)
     go_wp2_with fail
     go_ret
     exact ⟨by rw [unhide HV]; simp [gRe, hnear, hown], (by repeat first | exact Fr.refl _ _ | refine Fr.alloc ?_ _ | refine Fr.drew ?_ | refine Fr.drewN ?_ _)⟩
   ·have ir3 : ((pr : Int) == (3 : Int)) = false := by have := beq_cast pr 3; simp only [hr3, decide_false] at this; exact this
    go_wp2_with fail
    go_quiet (fail)
    go_wp2_with fail
    go_ret
    exact ⟨by rw [unhide HV]; simp [gRe, hr3, hown], (by repeat first | exact Fr.refl _ _ | refine Fr.alloc ?_ _ | refine Fr.drew ?_ | refine Fr.drewN ?_ _)⟩
set_option maxHeartbeats 2000000 in
set_option maxRecDepth 100000 in
theorem gseal_any (sv : Value) (S : List P3) (wd ow : Nat) (sl : Bool) (gv : Value) (k : Nat) (w : World) (hS : Stf w sv S) (hl : S.length ≤ 140737488355328) :
  Calls Tryz.prog 46 #[sv, .agg #[.int .u32 (wd : Nat), .int .u32 (ow : Nat), .bool sl, gv], .int .u32 (k : Nat)] w fun e w' => e = .returned (.int .u8 ((ansv S k fun p => gSe p k ow : Nat) : Nat)) ∧ Fr (fun _ => False) w w' := by
 have HF := hide (fun W (hf : Fr (fun _ => False) w W) => gfind_any sv S k W (hS.fr hf) hl)
 obtain ⟨xo, xc, rfl⟩ := hS.form
 rcases fnd_cases S k with ⟨h1, h2⟩ | ⟨j, hj, h1, h2, h3⟩
 ·have HV := hide (show (ansv S k fun p => gSe p k ow) = 1 by rw [ansv, h2])
  simp only [fndI, h1] at HF
  clear hS h1 h2
  go_enter Tryz.func46, Tryz.ntmps46
  go_wp2_with fail
  refine ((unhide HF) _ ((Fr.refl _ _).alloc _)).mono ?_
  clear HF
  rintro e w2 ⟨rfl, rfl⟩
  go_wp2_with fail
  go_ret
  exact ⟨by rw [unhide HV]; rfl, (Fr.refl _ _).alloc _⟩
 ·obtain ⟨P, hPe⟩ : ∃ P, S[j] = P := ⟨_, rfl⟩
  have HV := hide (show (ansv S k fun p => gSe p k ow) = (fun p : P3 => gSe p k ow) P by rw [ansv, h2, hPe])
  simp only [fndI, h1] at HF
  obtain ⟨g, o, rfl, c0, c1, c2⟩ := hS.at_ j hj
  rw [hPe] at c0 c1 c2 h3
  have hgl0 : g < w.heap.size := lt_of_cell c0
  clear hS h1 h2 hPe
  obtain ⟨pa, pr, pw⟩ := P
  simp only at c0 c1 c2 h3
  rw [h3] at c0
  clear h3
  go_enter Tryz.func46, Tryz.ntmps46
  go_wp2_with fail
  refine ((unhide HF) _ ((Fr.refl _ _).alloc _)).mono ?_
  clear HF
  rintro e w2 ⟨rfl, rfl⟩
  by_cases hown : k = ow
  ·subst hown
   go_wp2_with fail
   go_ret
   exact ⟨by rw [unhide HV]; simp [gSe], (by repeat first | exact Fr.refl _ _ | refine Fr.alloc ?_ _ | refine Fr.drew ?_ | refine Fr.drewN ?_ _)⟩
  ·go_wp2_with fail
   go_ret
   exact ⟨by rw [unhide HV]; simp [gSe, hown], (by repeat first | exact Fr.refl _ _ | refine Fr.alloc ?_ _ | refine Fr.drew ?_ | refine Fr.drewN ?_ _)⟩
set_option maxHeartbeats 2000000 in
set_option maxRecDepth 100000 in
theorem gbreak_any (sv : Value) (S : List P3) (wd ow : Nat) (sl : Bool) (gv : Value) (k : Nat) (rs : ByteArray) (w : World) (hS : Stf w sv S) (hl : S.length ≤ 140737488355328) :
  Calls Tryz.prog 47 #[sv, .agg #[.int .u32 (wd : Nat), .int .u32 (ow : Nat), .bool sl, gv], .int .u32 (k : Nat), .string rs] w fun e w' => e = .returned (.int .u8 ((ansv S k fun p => gBr p rs : Nat) : Nat)) ∧ Fr (fun _ => False) w w' := by
 have HF := hide (fun W (hf : Fr (fun _ => False) w W) => gfind_any sv S k W (hS.fr hf) hl)
 obtain ⟨xo, xc, rfl⟩ := hS.form
 rcases fnd_cases S k with ⟨h1, h2⟩ | ⟨j, hj, h1, h2, h3⟩
 ·have HV := hide (show (ansv S k fun p => gBr p rs) = 1 by rw [ansv, h2])
  simp only [fndI, h1] at HF
  clear hS h1 h2
  go_enter Tryz.func47, Tryz.ntmps47
  go_wp2_with fail
  refine ((unhide HF) _ ((Fr.refl _ _).alloc _)).mono ?_
  clear HF
  rintro e w2 ⟨rfl, rfl⟩
  go_wp2_with fail
  go_ret
  exact ⟨by rw [unhide HV]; rfl, (Fr.refl _ _).alloc _⟩
 ·obtain ⟨P, hPe⟩ : ∃ P, S[j] = P := ⟨_, rfl⟩
  have HV := hide (show (ansv S k fun p => gBr p rs) = (fun p : P3 => gBr p rs) P by rw [ansv, h2, hPe])
  simp only [fndI, h1] at HF
  obtain ⟨g, o, rfl, c0, c1, c2⟩ := hS.at_ j hj
  rw [hPe] at c0 c1 c2 h3
  have hgl0 : g < w.heap.size := lt_of_cell c0
  clear hS h1 h2 hPe
  obtain ⟨pa, pr, pw⟩ := P
  simp only at c0 c1 c2 h3
  rw [h3] at c0
  clear h3
  go_enter Tryz.func47, Tryz.ntmps47
  go_wp2_with fail
  refine ((unhide HF) _ ((Fr.refl _ _).alloc _)).mono ?_
  clear HF
  rintro e w2 ⟨rfl, rfl⟩
  by_cases hr3 : pr = 3
  ·subst hr3
   rcases hz : rs.toList.isEmpty with _ | _
   ·go_wp2_with fail
    go_ret
    exact ⟨by rw [unhide HV]; simp [gBr, hz], (by repeat first | exact Fr.refl _ _ | refine Fr.alloc ?_ _ | refine Fr.drew ?_ | refine Fr.drewN ?_ _)⟩
   ·go_wp2_with fail
    go_ret
    exact ⟨by rw [unhide HV]; simp [gBr, hz], (by repeat first | exact Fr.refl _ _ | refine Fr.alloc ?_ _ | refine Fr.drew ?_ | refine Fr.drewN ?_ _)⟩
  ·have ir3 : ¬ (pr : Int) = 3 := by omega
   by_cases hr2 : pr = 2
   ·subst hr2
    rcases hz : rs.toList.isEmpty with _ | _
    ·go_wp2_with fail
     go_ret
     exact ⟨by rw [unhide HV]; simp [gBr, hz], (by repeat first | exact Fr.refl _ _ | refine Fr.alloc ?_ _ | refine Fr.drew ?_ | refine Fr.drewN ?_ _)⟩
    ·go_wp2_with fail
     go_ret
     exact ⟨by rw [unhide HV]; simp [gBr, hz], (by repeat first | exact Fr.refl _ _ | refine Fr.alloc ?_ _ | refine Fr.drew ?_ | refine Fr.drewN ?_ _)⟩
   ·have ir2 : ¬ (pr : Int) = 2 := by omega
    go_wp2_with fail
    go_ret
    exact ⟨by rw [unhide HV]; simp [gBr, hr3, hr2], (by repeat first | exact Fr.refl _ _ | refine Fr.alloc ?_ _ | refine Fr.drew ?_ | refine Fr.drewN ?_ _)⟩
def gHi (p : P3) (k wd ow : Nat) (sl : Bool) (G : List Nat) : Nat := if p.r = 4 then 0 else gRd p k wd ow sl G
def gAm (p : P3) (k wd ow : Nat) (sl : Bool) (G : List Nat) (F : List F5) : Nat := if gRd p k wd ow sl G ≠ 0 then gRd p k wd ow sl G else if p.r = 2 ∨ p.r = 3 then 0 else if p.r ≠ 1 then 5 else if txts F then 0 else 5
def gCr (S : List P3) (p : P3) (wd ow : Nat) : Nat := match perso S ow with
 | none => 1
 | some o => if o.r ≠ 5 then 1 else if p.w = wd ∧ (p.r = 1 ∨ p.r = 2 ∨ p.r = 3) then 0 else 5
set_option maxHeartbeats 2000000 in
set_option maxRecDepth 100000 in
theorem ghistory_any (sv : Value) (S : List P3) (wd ow : Nat) (sl : Bool) (gv : Value) (G : List Nat) (k : Nat) (w : World) (hS : Stf w sv S) (hl : S.length ≤ 140737488355328) (hG : Us w gv G) (hgl : G.length ≤ 140737488355328) :
  Calls Tryz.prog 45 #[sv, .agg #[.int .u32 (wd : Nat), .int .u32 (ow : Nat), .bool sl, gv], .int .u32 (k : Nat)] w fun e w' => e = .returned (.int .u8 ((ansv S k fun p => gHi p k wd ow sl G : Nat) : Nat)) ∧ Fr (fun _ => False) w w' := by
 have HR := hide (fun W (hf : Fr (fun _ => False) w W) => gread_any sv S wd ow sl gv G k W (hS.fr hf) hl (hG.fr hf) hgl)
 have HF := hide (fun W (hf : Fr (fun _ => False) w W) => gfind_any sv S k W (hS.fr hf) hl)
 obtain ⟨xo, xc, rfl⟩ := hS.form
 obtain ⟨go, gc, rfl⟩ := hG.form
 clear hG
 rcases fnd_cases S k with ⟨h1, h2⟩ | ⟨j, hj, h1, h2, h3⟩
 ·have HV := hide (show (ansv S k fun p => gHi p k wd ow sl G) = (ansv S k fun p => gRd p k wd ow sl G) by rw [ansv, ansv, h2])
  simp only [fndI, h1] at HF
  clear hS h1 h2
  go_enter Tryz.func45, Tryz.ntmps45
  go_wp2_with fail
  refine ((unhide HF) _ ((Fr.refl _ _).alloc _)).mono ?_
  clear HF
  rintro e w2 ⟨rfl, rfl⟩
  go_wp2_with fail
  refine ((unhide HR) _ ((Fr.refl _ _).alloc _)).mono ?_
  clear HR
  rintro e w2 ⟨rfl, hq⟩
  go_wp2_with fail
  go_ret
  exact ⟨by rw [unhide HV]; rfl, ((Fr.refl _ _).alloc _).trans hq (fun _ _ h => h)⟩
 ·obtain ⟨P, hPe⟩ : ∃ P, S[j] = P := ⟨_, rfl⟩
  have hV : (ansv S k fun p => gHi p k wd ow sl G) = gHi P k wd ow sl G := by rw [ansv, h2, hPe]
  have hW : (ansv S k fun p => gRd p k wd ow sl G) = gRd P k wd ow sl G := by rw [ansv, h2, hPe]
  have HV := hide (And.intro hV hW)
  simp only [fndI, h1] at HF
  obtain ⟨g, o, rfl, c0, c1, c2⟩ := hS.at_ j hj
  rw [hPe] at c0 c1 c2 h3
  have hgl0 : g < w.heap.size := lt_of_cell c0
  clear hS h1 h2 hPe hV hW
  obtain ⟨pa, pr, pw⟩ := P
  simp only at c0 c1 c2 h3
  clear h3
  by_cases hr : pr = 4
  ·subst hr
   go_enter Tryz.func45, Tryz.ntmps45
   go_wp2_with fail
   refine ((unhide HF) _ ((Fr.refl _ _).alloc _)).mono ?_
   clear HF
   rintro e w2 ⟨rfl, rfl⟩
   go_wp2_with fail
   go_ret
   exact ⟨by rw [(unhide HV).1]; rfl, (Fr.refl _ _).alloc _⟩
  ·have ir : ¬ (pr : Int) = 4 := by omega
   go_enter Tryz.func45, Tryz.ntmps45
   go_wp2_with fail
   refine ((unhide HF) _ ((Fr.refl _ _).alloc _)).mono ?_
   clear HF
   rintro e w2 ⟨rfl, rfl⟩
   go_wp2_with fail
   refine ((unhide HR) _ ((Fr.refl _ _).alloc _)).mono ?_
   clear HR
   rintro e w2 ⟨rfl, hq⟩
   go_wp2_with fail
   go_ret
   exact ⟨by rw [(unhide HV).1, (unhide HV).2]; simp [gHi, hr], ((Fr.refl _ _).alloc _).trans hq (fun _ _ h => h)⟩
set_option maxHeartbeats 2000000 in
set_option maxRecDepth 100000 in
theorem gcreate_any (sv : Value) (S : List P3) (k wd ow : Nat) (w : World) (hS : Stf w sv S) (hl : S.length ≤ 140737488355328) :
  Calls Tryz.prog 41 #[sv, .int .u32 (k : Nat), .int .u32 (wd : Nat), .int .u32 (ow : Nat)] w fun e w' => e = .returned (.int .u8 ((ansv S k fun p => gCr S p wd ow : Nat) : Nat)) ∧ Fr (fun _ => False) w w' := by
 have HF := hide (gfind_any sv S k w hS hl)
 have HO := hide (gfind_any sv S ow w hS hl)
 obtain ⟨xo, xc, rfl⟩ := hS.form
 rcases fnd_cases S k with ⟨h1, h2⟩ | ⟨j, hj, h1, h2, h3⟩
 ·have HV := hide (show (ansv S k fun p => gCr S p wd ow) = 1 by rw [ansv, h2])
  simp only [fndI, h1] at HF
  clear hS h1 h2
  go_enter Tryz.func41, Tryz.ntmps41
  go_wp2_with fail
  refine (unhide HF).mono ?_
  clear HF
  rintro e w2 ⟨rfl, rfl⟩
  go_wp2_with fail
  refine (unhide HO).mono ?_
  clear HO
  rintro e w2 ⟨rfl, rfl⟩
  go_wp2_with fail
  go_ret
  exact ⟨by rw [unhide HV]; rfl, Fr.refl _ _⟩
 ·obtain ⟨P, hPe⟩ : ∃ P, S[j] = P := ⟨_, rfl⟩
  have hV : (ansv S k fun p => gCr S p wd ow) = gCr S P wd ow := by rw [ansv, h2, hPe]
  simp only [fndI, h1] at HF
  obtain ⟨g, o, rfl, c0, c1, c2⟩ := hS.at_ j hj
  rw [hPe] at c0 c1 c2 h3
  clear h1 h2 hPe
  obtain ⟨pa, pr, pw⟩ := P
  simp only at c0 c1 c2 h3
  clear h3
  rcases fnd_cases S ow with ⟨h1, h2⟩ | ⟨i, hi, h1, h2, h3⟩
  ·have HV := hide (hV.trans (show gCr S ⟨pa, pr, pw⟩ wd ow = 1 by rw [gCr, h2]))
   simp only [fndI, h1] at HO
   clear hS h1 h2 hV
   go_enter Tryz.func41, Tryz.ntmps41
   go_wp2_with fail
   refine (unhide HF).mono ?_
   clear HF
   rintro e w2 ⟨rfl, rfl⟩
   go_wp2_with fail
   refine (unhide HO).mono ?_
   clear HO
   rintro e w2 ⟨rfl, rfl⟩
   go_wp2_with fail
   go_ret
   exact ⟨by rw [unhide HV]; rfl, Fr.refl _ _⟩
  ·obtain ⟨O, hOe⟩ : ∃ O, S[i] = O := ⟨_, rfl⟩
   obtain ⟨g', o', e1, d0, d1, d2⟩ := hS.at_ i hi
   obtain ⟨rfl, rfl⟩ : g' = g ∧ o' = o := by simpa using e1.symm
   rw [hOe] at d0 d1 d2 h3
   have hV2 := hV.trans (show gCr S ⟨pa, pr, pw⟩ wd ow = (if O.r ≠ 5 then 1 else if pw = wd ∧ (pr = 1 ∨ pr = 2 ∨ pr = 3) then 0 else 5) by rw [gCr, h2, hOe])
   simp only [fndI, h1] at HO
   clear hS h1 h2 hV hOe e1
   obtain ⟨oa, or_, ow'⟩ := O
   simp only at d0 d1 d2 h3 hV2
   clear h3
   have HV := hide hV2
   clear hV2
   by_cases h5 : or_ = 5
   ·subst h5
    by_cases hnear : pw = wd
    ·subst hnear
     by_cases hr1 : pr = 1
     ·subst hr1
      go_enter Tryz.func41, Tryz.ntmps41
      go_wp2_with fail
      refine (unhide HF).mono ?_
      clear HF
      rintro e w2 ⟨rfl, rfl⟩
      go_wp2_with fail
      refine (unhide HO).mono ?_
      clear HO
      rintro e w2 ⟨rfl, rfl⟩
      go_wp2_with fail
      go_ret
      exact ⟨by rw [unhide HV]; simp, (by repeat first | exact Fr.refl _ _ | refine Fr.alloc ?_ _ | refine Fr.drew ?_ | refine Fr.drewN ?_ _)⟩
     ·have ir1 : ¬ (pr : Int) = 1 := by omega
      have jr1 : ((pr : Int) == 1) = false := by simpa using ir1
      by_cases hr2 : pr = 2
      ·subst hr2
       go_enter Tryz.func41, Tryz.ntmps41
       go_wp2_with fail
       refine (unhide HF).mono ?_
       clear HF
       rintro e w2 ⟨rfl, rfl⟩
       go_wp2_with fail
       refine (unhide HO).mono ?_
       clear HO
       rintro e w2 ⟨rfl, rfl⟩
       go_wp2_with fail
       go_ret
       exact ⟨by rw [unhide HV]; simp, (by repeat first | exact Fr.refl _ _ | refine Fr.alloc ?_ _ | refine Fr.drew ?_ | refine Fr.drewN ?_ _)⟩
      ·have ir2 : ¬ (pr : Int) = 2 := by omega
       have jr2 : ((pr : Int) == 2) = false := by simpa using ir2
       by_cases hr3 : pr = 3
       ·subst hr3
        go_enter Tryz.func41, Tryz.ntmps41
        go_wp2_with fail
        refine (unhide HF).mono ?_
        clear HF
        rintro e w2 ⟨rfl, rfl⟩
        go_wp2_with fail
        refine (unhide HO).mono ?_
        clear HO
        rintro e w2 ⟨rfl, rfl⟩
        go_wp2_with fail
        go_ret
        exact ⟨by rw [unhide HV]; simp, (by repeat first | exact Fr.refl _ _ | refine Fr.alloc ?_ _ | refine Fr.drew ?_ | refine Fr.drewN ?_ _)⟩
       ·have ir3 : ¬ (pr : Int) = 3 := by omega
        have jr3 : ((pr : Int) == 3) = false := by simpa using ir3
        go_enter Tryz.func41, Tryz.ntmps41
        go_wp2_with fail
        refine (unhide HF).mono ?_
        clear HF
        rintro e w2 ⟨rfl, rfl⟩
        go_wp2_with fail
        refine (unhide HO).mono ?_
        clear HO
        rintro e w2 ⟨rfl, rfl⟩
        go_wp2_with fail
        go_ret
        exact ⟨by rw [unhide HV]; simp [hr1, hr2, hr3], (by repeat first | exact Fr.refl _ _ | refine Fr.alloc ?_ _ | refine Fr.drew ?_ | refine Fr.drewN ?_ _)⟩
    ·have ib : ((pw : Int) == (wd : Int)) = false := by rw [beq_cast]; simp [hnear]
     go_enter Tryz.func41, Tryz.ntmps41
     go_wp2_with fail
     refine (unhide HF).mono ?_
     clear HF
     rintro e w2 ⟨rfl, rfl⟩
     go_wp2_with fail
     refine (unhide HO).mono ?_
     clear HO
     rintro e w2 ⟨rfl, rfl⟩
     go_wp2_with fail
     go_ret
     exact ⟨by rw [unhide HV]; simp [hnear], (by repeat first | exact Fr.refl _ _ | refine Fr.alloc ?_ _ | refine Fr.drew ?_ | refine Fr.drewN ?_ _)⟩
   ·have i5 : ¬ (or_ : Int) = 5 := by omega
    have j5 : ((or_ : Int) == 5) = false := by simpa using i5
    have k5 : ((or_ : Int) != 5) = true := by simpa using i5
    go_enter Tryz.func41, Tryz.ntmps41
    go_wp2_with fail
    refine (unhide HF).mono ?_
    clear HF
    rintro e w2 ⟨rfl, rfl⟩
    go_wp2_with fail
    refine (unhide HO).mono ?_
    clear HO
    rintro e w2 ⟨rfl, rfl⟩
    go_wp2_with fail
    go_ret
    exact ⟨by rw [unhide HV]; simp [h5], Fr.refl _ _⟩
set_option maxHeartbeats 2000000 in
set_option maxRecDepth 100000 in
theorem gamend_any (sv : Value) (S : List P3) (wd ow : Nat) (sl : Bool) (gv : Value) (G : List Nat) (k : Nat) (fv : Value) (F : List F5) (w : World) (hS : Stf w sv S) (hl : S.length ≤ 140737488355328) (hG : Us w gv G) (hgl : G.length ≤ 140737488355328) (hF : Fds w fv F) (hfl : F.length ≤ 140737488355328) :
  Calls Tryz.prog 42 #[sv, .agg #[.int .u32 (wd : Nat), .int .u32 (ow : Nat), .bool sl, gv], .int .u32 (k : Nat), fv] w fun e w' => e = .returned (.int .u8 ((ansv S k fun p => gAm p k wd ow sl G F : Nat) : Nat)) ∧ Fr (fun _ => False) w w' := by
 have HR := hide (fun W (hf : Fr (fun _ => False) w W) => gread_any sv S wd ow sl gv G k W (hS.fr hf) hl (hG.fr hf) hgl)
 have HF := hide (fun W (hf : Fr (fun _ => False) w W) => gfind_any sv S k W (hS.fr hf) hl)
 have HS := hide hS
 have HFd := hide hF
 obtain ⟨xo, xc, rfl⟩ := hS.form
 obtain ⟨go, gc, rfl⟩ := hG.form
 obtain ⟨fo, fc, rfl⟩ := hF.form
 clear hG hF
 rcases fnd_cases S k with ⟨h1, h2⟩ | ⟨j, hj, h1, h2, h3⟩
 ·have hV : (ansv S k fun p => gAm p k wd ow sl G F) = 1 := by rw [ansv, h2]
  have hW : (ansv S k fun p => gRd p k wd ow sl G) = 1 := by rw [ansv, h2]
  have HV := hide hV
  rw [hW] at HR
  clear hS h1 h2 hV hW
  go_enter Tryz.func42, Tryz.ntmps42
  go_wp2_with fail
  refine ((unhide HR) _ ((Fr.refl _ _).alloc _)).mono ?_
  clear HR
  rintro e w2 ⟨rfl, hq⟩
  go_wp2_with fail
  go_ret
  exact ⟨by rw [unhide HV]; rfl, ((Fr.refl _ _).alloc _).trans hq (fun _ _ h => h)⟩
 ·obtain ⟨P, hPe⟩ : ∃ P, S[j] = P := ⟨_, rfl⟩
  have hV : (ansv S k fun p => gAm p k wd ow sl G F) = gAm P k wd ow sl G F := by rw [ansv, h2, hPe]
  have hW : (ansv S k fun p => gRd p k wd ow sl G) = gRd P k wd ow sl G := by rw [ansv, h2, hPe]
  rw [hW] at HR
  simp only [fndI, h1] at HF
  have HPe := hide hPe
  clear hS h1 h2 h3 hPe hW
  obtain ⟨c, hc⟩ : ∃ c, gRd P k wd ow sl G = c := ⟨_, rfl⟩
  rw [gAm, hc] at hV
  rw [hc] at HR
  clear hc
  by_cases hz : c = 0
  ·subst hz
   simp only [ne_eq, not_true_eq_false, if_false] at hV
   have HV := hide hV
   clear hV
   go_enter Tryz.func42, Tryz.ntmps42
   go_wp2_with fail
   refine ((unhide HR) _ ((Fr.refl _ _).alloc _)).mono ?_
   clear HR
   rintro e w2 ⟨rfl, hq⟩
   have hfr : Fr (fun _ => False) w w2 := ((Fr.refl _ _).alloc _).trans hq (fun _ _ h => h)
   have HQ := hide hfr
   obtain ⟨g, o, rfl, c0, c1, c2⟩ := ((unhide HS).fr hfr).at_ j hj
   rw [unhide HPe] at c0 c1 c2
   clear hq hfr
   obtain ⟨pa, pr, pw⟩ := P
   simp only at c0 c1 c2
   go_wp2_with fail
   refine ((unhide HF) _ (unhide HQ)).mono ?_
   clear HF
   rintro e w3 ⟨rfl, rfl⟩
   by_cases hr2 : pr = 2
   ·subst hr2
    go_wp2_with fail
    go_ret
    exact ⟨by rw [unhide HV]; simp, (by repeat first | exact unhide HQ | refine Fr.alloc ?_ _ | refine Fr.drew ?_ | refine Fr.drewN ?_ _)⟩
   ·have ir2 : ¬ (pr : Int) = 2 := by omega
    have jr2 : ((pr : Int) == 2) = false := by simpa using ir2
    by_cases hr3 : pr = 3
    ·subst hr3
     go_wp2_with fail
     go_ret
     exact ⟨by rw [unhide HV]; simp, (by repeat first | exact unhide HQ | refine Fr.alloc ?_ _ | refine Fr.drew ?_ | refine Fr.drewN ?_ _)⟩
    ·have ir3 : ¬ (pr : Int) = 3 := by omega
     have jr3 : ((pr : Int) == 3) = false := by simpa using ir3
     by_cases hr1 : pr = 1
     ·subst hr1
      have HX1 := hide ((unhide HFd).fr (unhide HQ))
      go_wp2_with fail
      go_loopw [11] (fun iv wr => ∃ i : Nat, i ≤ F.length ∧ iv = .int .i64 (i : Nat) ∧ (∀ n (hn : n < F.length), n < i → F[n].k = 1) ∧ wr = w3) (fun iv _ => F.length - (intOf iv).toNat)
      case atStart => exact ⟨0, Nat.zero_le _, rfl, fun i _ h => by omega, rfl⟩
      case round =>
       obtain ⟨i, hi, rfl, hno, rfl⟩ := hrel
       have HN := hide hno
       clear hno
       by_cases hlt : i < F.length
       ·obtain ⟨fg, fo, rfl, d0, d1, d2, d3, d4⟩ := (unhide HX1).at_ i hlt
        clear d0 d2 d3 d4
        obtain ⟨fk, hfk⟩ : ∃ fk, F[i].k = fk := ⟨_, rfl⟩
        rw [hfk] at d1
        have HK := hide hfk
        clear hfk
        by_cases hk : fk = 1
        ·subst hk
         go_wp2_with fail
         go_roundw
         case rel =>
          refine ⟨i + 1, hlt, rfl, fun n hn h => ?_, trivial⟩
          rcases Nat.lt_or_ge n i with h1 | h1
          ·exact (unhide HN) n hn h1
          ·obtain rfl : n = i := by omega
           exact unhide HK
         case measure => simp [intOf]; omega
        ·have HT := hide (show txts F = false by
          rw [txts, List.all_eq_false]
          exact ⟨F[i], List.getElem_mem hlt, by rw [unhide HK]; simpa using hk⟩)
         have ik : ¬ (fk : Int) = 1 := by omega
         go_wp2_with fail
         go_ret
         exact ⟨by rw [unhide HV, unhide HT]; simp, (by repeat first | exact unhide HQ | refine Fr.alloc ?_ _ | refine Fr.drew ?_ | refine Fr.drewN ?_ _)⟩
       ·have HT := hide (show txts F = true by
         rw [txts, List.all_eq_true]
         intro x hx
         obtain ⟨n, hn, rfl⟩ := List.mem_iff_getElem.1 hx
         simpa using (unhide HN) n hn (by omega))
        go_wp2_with fail
        go_ret
        exact ⟨by rw [unhide HV, unhide HT]; simp, (by repeat first | exact unhide HQ | refine Fr.alloc ?_ _ | refine Fr.drew ?_ | refine Fr.drewN ?_ _)⟩
     ·have ir1 : ¬ (pr : Int) = 1 := by omega
      have jr1 : ((pr : Int) == 1) = false := by simpa using ir1
      go_wp2_with fail
      go_ret
      exact ⟨by rw [unhide HV]; simp [hr1, hr2, hr3], (by repeat first | exact unhide HQ | refine Fr.alloc ?_ _ | refine Fr.drew ?_ | refine Fr.drewN ?_ _)⟩
  ·simp only [ne_eq, hz, not_false_eq_true, if_true] at hV
   have HV := hide hV
   have iz : ¬ (c : Int) = 0 := by omega
   clear hV
   go_enter Tryz.func42, Tryz.ntmps42
   go_wp2_with fail
   refine ((unhide HR) _ ((Fr.refl _ _).alloc _)).mono ?_
   clear HR
   rintro e w2 ⟨rfl, hq⟩
   go_wp2_with fail
   go_ret
   exact ⟨by rw [unhide HV]; rfl, ((Fr.refl _ _).alloc _).trans hq (fun _ _ h => h)⟩
end Go.Proofs.YtiknjghcjaaenaaGreatDoor
namespace Go.Proofs.YtiknjghcjaaenaaGreatDoor
open Go.RowKit Go.Shelf
theorem ansv_congr {S : List P3} {k : Nat} {f g : P3 → Nat} (h : ∀ p : P3, p.a = k → f p = g p) : ansv S k f = ansv S k g := by
 rcases fnd_cases S k with ⟨_, h2⟩ | ⟨j, hj, _, h2, h3⟩
 ·simp only [ansv, h2]
 ·simp only [ansv, h2]
  exact h _ h3
theorem eq_read (sv gv fv : Value) (rs : ByteArray) (p : P3) (k wd ow : Nat) (sl : Bool) (G : List Nat) (hp : p.a = k) : (if rdF (⟨sv, p, wd, ow, sl, gv, fv, rs⟩ : QM) G then 0 else whyRd (⟨sv, p, wd, ow, sl, gv, fv, rs⟩ : QM)) = gRd p k wd ow sl G := by
 subst hp
 unfold rdF whyRd gRd QM.own QM.near QM.role
 by_cases h1 : p.a = ow <;> by_cases h2 : p.w = wd <;> by_cases h3 : p.r = 3 <;> by_cases h4 : p.r = 2 <;> by_cases h5 : p.r = 1 <;> cases sl <;> by_cases h6 : p.a ∈ G <;> simp_all
theorem eq_hist (sv gv fv : Value) (rs : ByteArray) (p : P3) (k wd ow : Nat) (sl : Bool) (G : List Nat) (hp : p.a = k) : (if hiF (⟨sv, p, wd, ow, sl, gv, fv, rs⟩ : QM) G then 0 else whyRd (⟨sv, p, wd, ow, sl, gv, fv, rs⟩ : QM)) = gHi p k wd ow sl G := by
 have e := eq_read sv gv fv rs p k wd ow sl G hp
 unfold hiF gHi
 rw [← e]
 by_cases h4 : p.r = 4
 ·simp [QM.role, h4]
 ·simp [QM.role, h4]
theorem eq_amend (sv gv fv : Value) (rs : ByteArray) (p : P3) (k wd ow : Nat) (sl : Bool) (G : List Nat) (F : List F5) (hp : p.a = k) : (if amF (⟨sv, p, wd, ow, sl, gv, fv, rs⟩ : QM) G F then 0 else whyAm (⟨sv, p, wd, ow, sl, gv, fv, rs⟩ : QM) G) = gAm p k wd ow sl G F := by
 have e := eq_read sv gv fv rs p k wd ow sl G hp
 have hw : whyRd (⟨sv, p, wd, ow, sl, gv, fv, rs⟩ : QM) ≠ 0 := by unfold whyRd; split <;> decide
 unfold amF whyAm gAm
 rw [← e]
 cases hr : rdF (⟨sv, p, wd, ow, sl, gv, fv, rs⟩ : QM) G
 ·simp [hw]
 ·by_cases h3 : p.r = 3 <;> by_cases h4 : p.r = 2 <;> by_cases h5 : p.r = 1 <;> cases txts F <;> simp_all [QM.role]
theorem eq_redact (sv gv fv : Value) (rs : ByteArray) (p : P3) (k wd ow : Nat) (sl : Bool) (hp : p.a = k) : (if reF (⟨sv, p, wd, ow, sl, gv, fv, rs⟩ : QM) then 0 else 5) = gRe p k wd ow := by
 subst hp
 unfold reF gRe QM.own QM.near QM.role
 by_cases h1 : p.a = ow <;> by_cases h2 : p.w = wd <;> by_cases h3 : p.r = 3 <;> simp_all
theorem eq_seal (sv gv fv : Value) (rs : ByteArray) (p : P3) (k wd ow : Nat) (sl : Bool) (hp : p.a = k) : (if seF (⟨sv, p, wd, ow, sl, gv, fv, rs⟩ : QM) then 0 else 5) = gSe p k ow := by
 subst hp
 unfold seF gSe QM.own
 by_cases h1 : p.a = ow <;> simp_all
theorem eq_break (sv gv fv : Value) (rs : ByteArray) (p : P3) (wd ow : Nat) (sl : Bool) : (if brF (⟨sv, p, wd, ow, sl, gv, fv, rs⟩ : QM) then 0 else 5) = gBr p rs := by
 unfold brF gBr QM.role
 cases rs.toList.isEmpty <;> by_cases h3 : p.r = 3 <;> by_cases h4 : p.r = 2 <;> simp_all
theorem eq_create (sv gv fv : Value) (rs : ByteArray) (S : List P3) (p : P3) (wd ow : Nat) (sl : Bool) : (if crF (⟨sv, p, wd, ow, sl, gv, fv, rs⟩ : QM) S then 0 else whyCr (⟨sv, p, wd, ow, sl, gv, fv, rs⟩ : QM) S) = gCr S p wd ow := by
 unfold crF whyCr gCr QM.near QM.role ownP
 rcases perso S ow with _ | o
 ·simp
 ·by_cases h5 : o.r = 5 <;> by_cases h2 : p.w = wd <;> by_cases h3 : p.r = 3 <;> by_cases h4 : p.r = 2 <;> by_cases h6 : p.r = 1 <;> simp_all
theorem rd_code (S : List P3) (k : Nat) (c : CM) : rdCode S k c = ansv S k fun p => gRd p k c.wa c.ow c.sl c.G := ansv_congr fun p hp => eq_read _ _ _ _ p k _ _ _ _ hp
theorem hi_code (S : List P3) (k : Nat) (c : CM) : hiCode S k c = ansv S k fun p => gHi p k c.wa c.ow c.sl c.G := ansv_congr fun p hp => eq_hist _ _ _ _ p k _ _ _ _ hp
theorem am_code (S : List P3) (k : Nat) (c : CM) (F : List F5) : amCode S k c F = ansv S k fun p => gAm p k c.wa c.ow c.sl c.G F := ansv_congr fun p hp => eq_amend _ _ _ _ p k _ _ _ _ F hp
theorem re_code (S : List P3) (k : Nat) (c : CM) : reCode S k c = ansv S k fun p => gRe p k c.wa c.ow := ansv_congr fun p hp => eq_redact _ _ _ _ p k _ _ _ hp
theorem se_code (S : List P3) (k : Nat) (c : CM) : seCode S k c = ansv S k fun p => gSe p k c.ow := ansv_congr fun p hp => eq_seal _ _ _ _ p k _ _ _ hp
theorem br_code (S : List P3) (k : Nat) (c : CM) (rs : ByteArray) : brCode S k c rs = ansv S k fun p => gBr p rs := ansv_congr fun p _ => eq_break _ _ _ _ p _ _ _
theorem cr_code (S : List P3) (k wa ow : Nat) : crCode S k wa ow = ansv S k fun p => gCr S p wa ow := ansv_congr fun p _ => eq_create _ _ _ _ S p _ _ _
set_option maxHeartbeats 1000000 in
set_option maxRecDepth 100000 in
theorem gjudged_1 (so : Option Addr) (sn sc : Nat) (rg : Option Addr) (rn rcap rc : Nat) (cl nu ac ve wa ow : Nat) (fo : Option Addr) (fn fc : Nat) (rs : ByteArray) (co : Nat) (w : World)
  (HC : Hid (∀ W, Fr (fun _ => False) w W → Calls Tryz.prog 41 #[.slice so sn sc, .int .u32 (ac : Nat), .int .u32 (wa : Nat), .int .u32 (ow : Nat)] W fun e w' => e = .returned (.int .u8 (co : Nat)) ∧ Fr (fun _ => False) w w')) :
  Calls Tryz.prog 26 #[.agg #[.slice so sn sc, .slice rg rn rcap], .agg #[.int .u32 (cl : Nat), .int .u32 (nu : Nat), .int .u32 (ac : Nat), .int .u8 1, .int .u32 (rc : Nat), .int .u32 (ve : Nat), .int .u32 (wa : Nat), .int .u32 (ow : Nat), .slice fo fn fc, .string rs]] w fun e w' => e = .returned (.int .u8 (co : Nat)) ∧ Fr (fun _ => False) w w' := by
 go_enter Tryz.func26, Tryz.ntmps26
 go_wp2_with fail
 refine ((unhide HC) _ (by repeat first | exact Fr.refl _ _ | refine Fr.alloc ?_ _ | refine Fr.setCell (p := ⟨_, _, none⟩) ?_ (.inr (by simp)) _)).mono ?_
 rintro e w2 ⟨rfl, hf2⟩
 go_wp2_with fail
 go_ret
 exact ⟨rfl, hf2⟩
set_option maxHeartbeats 1000000 in
set_option maxRecDepth 100000 in
theorem gjudged_2 (so : Option Addr) (sn sc : Nat) (rg rr rn rcap i xw xo : Nat) (xs : Bool) (go : Option Addr) (gn gc : Nat) (cl nu ac ve wa ow : Nat) (fo : Option Addr) (fn fc : Nat) (rs : ByteArray) (co : Nat) (w : World)
  (HC : Hid (∀ W, Fr (fun _ => False) w W → Calls Tryz.prog 42 #[.slice so sn sc, .agg #[.int .u32 (xw : Nat), .int .u32 (xo : Nat), .bool xs, .slice go gn gc], .int .u32 (ac : Nat), .slice fo fn fc] W fun e w' => e = .returned (.int .u8 (co : Nat)) ∧ Fr (fun _ => False) w w')) (hi : i < rn) (hn : rn ≤ 1000000) (c0 : w.cell? ⟨rg, rr + i * 5, none⟩ = some (.int .u32 (xw : Nat))) (c1 : w.cell? ⟨rg, rr + i * 5 + 1, none⟩ = some (.int .u32 (xo : Nat))) (c2 : w.cell? ⟨rg, rr + i * 5 + 2, none⟩ = some (.bool xs)) (c3 : w.cell? ⟨rg, rr + i * 5 + 3, none⟩ = some (.slice go gn gc)) :
  Calls Tryz.prog 26 #[.agg #[.slice so sn sc, .slice (some ⟨rg, rr, none⟩) rn rcap], .agg #[.int .u32 (cl : Nat), .int .u32 (nu : Nat), .int .u32 (ac : Nat), .int .u8 2, .int .u32 ((i + 1 : Nat) : Int), .int .u32 (ve : Nat), .int .u32 (wa : Nat), .int .u32 (ow : Nat), .slice fo fn fc, .string rs]] w fun e w' => e = .returned (.int .u8 (co : Nat)) ∧ Fr (fun _ => False) w w' := by
 have hgl : rg < w.heap.size := lt_of_cell c0
 have a1 : IntKind.u32.wrap (i : Int) = (i : Int) := by rw [IntKind.wrap_u32]; omega
 have a2 : (i : Int) < (rn : Int) := by omega
 clear hn
 go_enter Tryz.func26, Tryz.ntmps26
 go_wp2_with fail
 refine ((unhide HC) _ (by repeat first | exact Fr.refl _ _ | refine Fr.alloc ?_ _ | refine Fr.setCell (p := ⟨_, _, none⟩) ?_ (.inr (by simp)) _)).mono ?_
 rintro e w2 ⟨rfl, hf2⟩
 go_wp2_with fail
 go_ret
 exact ⟨rfl, hf2⟩
set_option maxHeartbeats 1000000 in
set_option maxRecDepth 100000 in
theorem gjudged_3 (so : Option Addr) (sn sc : Nat) (rg rr rn rcap i xw xo : Nat) (xs : Bool) (go : Option Addr) (gn gc : Nat) (cl nu ac ve wa ow : Nat) (fo : Option Addr) (fn fc : Nat) (rs : ByteArray) (co : Nat) (w : World)
  (HC : Hid (∀ W, Fr (fun _ => False) w W → Calls Tryz.prog 43 #[.slice so sn sc, .agg #[.int .u32 (xw : Nat), .int .u32 (xo : Nat), .bool xs, .slice go gn gc], .int .u32 (ac : Nat)] W fun e w' => e = .returned (.int .u8 (co : Nat)) ∧ Fr (fun _ => False) w w')) (hi : i < rn) (hn : rn ≤ 1000000) (c0 : w.cell? ⟨rg, rr + i * 5, none⟩ = some (.int .u32 (xw : Nat))) (c1 : w.cell? ⟨rg, rr + i * 5 + 1, none⟩ = some (.int .u32 (xo : Nat))) (c2 : w.cell? ⟨rg, rr + i * 5 + 2, none⟩ = some (.bool xs)) (c3 : w.cell? ⟨rg, rr + i * 5 + 3, none⟩ = some (.slice go gn gc)) :
  Calls Tryz.prog 26 #[.agg #[.slice so sn sc, .slice (some ⟨rg, rr, none⟩) rn rcap], .agg #[.int .u32 (cl : Nat), .int .u32 (nu : Nat), .int .u32 (ac : Nat), .int .u8 3, .int .u32 ((i + 1 : Nat) : Int), .int .u32 (ve : Nat), .int .u32 (wa : Nat), .int .u32 (ow : Nat), .slice fo fn fc, .string rs]] w fun e w' => e = .returned (.int .u8 (co : Nat)) ∧ Fr (fun _ => False) w w' := by
 have hgl : rg < w.heap.size := lt_of_cell c0
 have a1 : IntKind.u32.wrap (i : Int) = (i : Int) := by rw [IntKind.wrap_u32]; omega
 have a2 : (i : Int) < (rn : Int) := by omega
 clear hn
 go_enter Tryz.func26, Tryz.ntmps26
 go_wp2_with fail
 refine ((unhide HC) _ (by repeat first | exact Fr.refl _ _ | refine Fr.alloc ?_ _ | refine Fr.setCell (p := ⟨_, _, none⟩) ?_ (.inr (by simp)) _)).mono ?_
 rintro e w2 ⟨rfl, hf2⟩
 go_wp2_with fail
 go_ret
 exact ⟨rfl, hf2⟩
set_option maxHeartbeats 1000000 in
set_option maxRecDepth 100000 in
theorem gjudged_4 (so : Option Addr) (sn sc : Nat) (rg rr rn rcap i xw xo : Nat) (xs : Bool) (go : Option Addr) (gn gc : Nat) (cl nu ac ve wa ow : Nat) (fo : Option Addr) (fn fc : Nat) (rs : ByteArray) (co : Nat) (w : World)
  (HC : Hid (∀ W, Fr (fun _ => False) w W → Calls Tryz.prog 44 #[.slice so sn sc, .agg #[.int .u32 (xw : Nat), .int .u32 (xo : Nat), .bool xs, .slice go gn gc], .int .u32 (ac : Nat)] W fun e w' => e = .returned (.int .u8 (co : Nat)) ∧ Fr (fun _ => False) w w')) (hi : i < rn) (hn : rn ≤ 1000000) (c0 : w.cell? ⟨rg, rr + i * 5, none⟩ = some (.int .u32 (xw : Nat))) (c1 : w.cell? ⟨rg, rr + i * 5 + 1, none⟩ = some (.int .u32 (xo : Nat))) (c2 : w.cell? ⟨rg, rr + i * 5 + 2, none⟩ = some (.bool xs)) (c3 : w.cell? ⟨rg, rr + i * 5 + 3, none⟩ = some (.slice go gn gc)) :
  Calls Tryz.prog 26 #[.agg #[.slice so sn sc, .slice (some ⟨rg, rr, none⟩) rn rcap], .agg #[.int .u32 (cl : Nat), .int .u32 (nu : Nat), .int .u32 (ac : Nat), .int .u8 4, .int .u32 ((i + 1 : Nat) : Int), .int .u32 (ve : Nat), .int .u32 (wa : Nat), .int .u32 (ow : Nat), .slice fo fn fc, .string rs]] w fun e w' => e = .returned (.int .u8 (co : Nat)) ∧ Fr (fun _ => False) w w' := by
 have hgl : rg < w.heap.size := lt_of_cell c0
 have a1 : IntKind.u32.wrap (i : Int) = (i : Int) := by rw [IntKind.wrap_u32]; omega
 have a2 : (i : Int) < (rn : Int) := by omega
 clear hn
 go_enter Tryz.func26, Tryz.ntmps26
 go_wp2_with fail
 refine ((unhide HC) _ (by repeat first | exact Fr.refl _ _ | refine Fr.alloc ?_ _ | refine Fr.setCell (p := ⟨_, _, none⟩) ?_ (.inr (by simp)) _)).mono ?_
 rintro e w2 ⟨rfl, hf2⟩
 go_wp2_with fail
 go_ret
 exact ⟨rfl, hf2⟩
set_option maxHeartbeats 1000000 in
set_option maxRecDepth 100000 in
theorem gjudged_5 (so : Option Addr) (sn sc : Nat) (rg rr rn rcap i xw xo : Nat) (xs : Bool) (go : Option Addr) (gn gc : Nat) (cl nu ac ve wa ow : Nat) (fo : Option Addr) (fn fc : Nat) (rs : ByteArray) (co : Nat) (w : World)
  (HC : Hid (∀ W, Fr (fun _ => False) w W → Calls Tryz.prog 45 #[.slice so sn sc, .agg #[.int .u32 (xw : Nat), .int .u32 (xo : Nat), .bool xs, .slice go gn gc], .int .u32 (ac : Nat)] W fun e w' => e = .returned (.int .u8 (co : Nat)) ∧ Fr (fun _ => False) w w')) (hi : i < rn) (hn : rn ≤ 1000000) (c0 : w.cell? ⟨rg, rr + i * 5, none⟩ = some (.int .u32 (xw : Nat))) (c1 : w.cell? ⟨rg, rr + i * 5 + 1, none⟩ = some (.int .u32 (xo : Nat))) (c2 : w.cell? ⟨rg, rr + i * 5 + 2, none⟩ = some (.bool xs)) (c3 : w.cell? ⟨rg, rr + i * 5 + 3, none⟩ = some (.slice go gn gc)) :
  Calls Tryz.prog 26 #[.agg #[.slice so sn sc, .slice (some ⟨rg, rr, none⟩) rn rcap], .agg #[.int .u32 (cl : Nat), .int .u32 (nu : Nat), .int .u32 (ac : Nat), .int .u8 5, .int .u32 ((i + 1 : Nat) : Int), .int .u32 (ve : Nat), .int .u32 (wa : Nat), .int .u32 (ow : Nat), .slice fo fn fc, .string rs]] w fun e w' => e = .returned (.int .u8 (co : Nat)) ∧ Fr (fun _ => False) w w' := by
 have hgl : rg < w.heap.size := lt_of_cell c0
 have a1 : IntKind.u32.wrap (i : Int) = (i : Int) := by rw [IntKind.wrap_u32]; omega
 have a2 : (i : Int) < (rn : Int) := by omega
 clear hn
 go_enter Tryz.func26, Tryz.ntmps26
 go_wp2_with fail
 refine ((unhide HC) _ (by repeat first | exact Fr.refl _ _ | refine Fr.alloc ?_ _ | refine Fr.setCell (p := ⟨_, _, none⟩) ?_ (.inr (by simp)) _)).mono ?_
 rintro e w2 ⟨rfl, hf2⟩
 go_wp2_with fail
 go_ret
 exact ⟨rfl, hf2⟩
set_option maxHeartbeats 1000000 in
set_option maxRecDepth 100000 in
theorem gjudged_6 (so : Option Addr) (sn sc : Nat) (rg rr rn rcap i xw xo : Nat) (xs : Bool) (go : Option Addr) (gn gc : Nat) (cl nu ac ve wa ow : Nat) (fo : Option Addr) (fn fc : Nat) (rs : ByteArray) (co : Nat) (w : World)
  (HC : Hid (∀ W, Fr (fun _ => False) w W → Calls Tryz.prog 46 #[.slice so sn sc, .agg #[.int .u32 (xw : Nat), .int .u32 (xo : Nat), .bool xs, .slice go gn gc], .int .u32 (ac : Nat)] W fun e w' => e = .returned (.int .u8 (co : Nat)) ∧ Fr (fun _ => False) w w')) (hi : i < rn) (hn : rn ≤ 1000000) (c0 : w.cell? ⟨rg, rr + i * 5, none⟩ = some (.int .u32 (xw : Nat))) (c1 : w.cell? ⟨rg, rr + i * 5 + 1, none⟩ = some (.int .u32 (xo : Nat))) (c2 : w.cell? ⟨rg, rr + i * 5 + 2, none⟩ = some (.bool xs)) (c3 : w.cell? ⟨rg, rr + i * 5 + 3, none⟩ = some (.slice go gn gc)) :
  Calls Tryz.prog 26 #[.agg #[.slice so sn sc, .slice (some ⟨rg, rr, none⟩) rn rcap], .agg #[.int .u32 (cl : Nat), .int .u32 (nu : Nat), .int .u32 (ac : Nat), .int .u8 6, .int .u32 ((i + 1 : Nat) : Int), .int .u32 (ve : Nat), .int .u32 (wa : Nat), .int .u32 (ow : Nat), .slice fo fn fc, .string rs]] w fun e w' => e = .returned (.int .u8 (co : Nat)) ∧ Fr (fun _ => False) w w' := by
 have hgl : rg < w.heap.size := lt_of_cell c0
 have a1 : IntKind.u32.wrap (i : Int) = (i : Int) := by rw [IntKind.wrap_u32]; omega
 have a2 : (i : Int) < (rn : Int) := by omega
 clear hn
 go_enter Tryz.func26, Tryz.ntmps26
 go_wp2_with fail
 refine ((unhide HC) _ (by repeat first | exact Fr.refl _ _ | refine Fr.alloc ?_ _ | refine Fr.setCell (p := ⟨_, _, none⟩) ?_ (.inr (by simp)) _)).mono ?_
 rintro e w2 ⟨rfl, hf2⟩
 go_wp2_with fail
 go_ret
 exact ⟨rfl, hf2⟩
set_option maxHeartbeats 1000000 in
set_option maxRecDepth 100000 in
theorem gjudged_7 (so : Option Addr) (sn sc : Nat) (rg rr rn rcap i xw xo : Nat) (xs : Bool) (go : Option Addr) (gn gc : Nat) (cl nu ac ve wa ow : Nat) (fo : Option Addr) (fn fc : Nat) (rs : ByteArray) (co : Nat) (w : World)
  (HC : Hid (∀ W, Fr (fun _ => False) w W → Calls Tryz.prog 47 #[.slice so sn sc, .agg #[.int .u32 (xw : Nat), .int .u32 (xo : Nat), .bool xs, .slice go gn gc], .int .u32 (ac : Nat), .string rs] W fun e w' => e = .returned (.int .u8 (co : Nat)) ∧ Fr (fun _ => False) w w')) (hi : i < rn) (hn : rn ≤ 1000000) (c0 : w.cell? ⟨rg, rr + i * 5, none⟩ = some (.int .u32 (xw : Nat))) (c1 : w.cell? ⟨rg, rr + i * 5 + 1, none⟩ = some (.int .u32 (xo : Nat))) (c2 : w.cell? ⟨rg, rr + i * 5 + 2, none⟩ = some (.bool xs)) (c3 : w.cell? ⟨rg, rr + i * 5 + 3, none⟩ = some (.slice go gn gc)) :
  Calls Tryz.prog 26 #[.agg #[.slice so sn sc, .slice (some ⟨rg, rr, none⟩) rn rcap], .agg #[.int .u32 (cl : Nat), .int .u32 (nu : Nat), .int .u32 (ac : Nat), .int .u8 7, .int .u32 ((i + 1 : Nat) : Int), .int .u32 (ve : Nat), .int .u32 (wa : Nat), .int .u32 (ow : Nat), .slice fo fn fc, .string rs]] w fun e w' => e = .returned (.int .u8 (co : Nat)) ∧ Fr (fun _ => False) w w' := by
 have hgl : rg < w.heap.size := lt_of_cell c0
 have a1 : IntKind.u32.wrap (i : Int) = (i : Int) := by rw [IntKind.wrap_u32]; omega
 have a2 : (i : Int) < (rn : Int) := by omega
 clear hn
 go_enter Tryz.func26, Tryz.ntmps26
 go_wp2_with fail
 refine ((unhide HC) _ (by repeat first | exact Fr.refl _ _ | refine Fr.alloc ?_ _ | refine Fr.setCell (p := ⟨_, _, none⟩) ?_ (.inr (by simp)) _)).mono ?_
 rintro e w2 ⟨rfl, hf2⟩
 go_wp2_with fail
 go_ret
 exact ⟨rfl, hf2⟩
theorem results_cells2 {P : Program} {fn : Func} {p q : Tmp} {ty uy : TypeId} (h : fn.results = #[.cell p ty, .cell q uy]) (tmps : Array Value) (w : World) (b c : Nat) (cs ds : List Value) (d e : TypeDesc)
  (hp : tmps.getD p undef = .pointer (some ⟨b, 0, none⟩)) (hq : tmps.getD q undef = .pointer (some ⟨c, 0, none⟩)) (hc : w.rangeAt b 0 cs) (hd : w.rangeAt c 0 ds)
  (hu : P.underlying ty = some d) (hr : d.isRow = true) (hi : (P.info? ty).map (·.size) = some cs.length) (hu2 : P.underlying uy = some e) (hr2 : e.isRow = true) (hi2 : (P.info? uy).map (·.size) = some ds.length) :
  (results fn tmps).run P w = .ok (.tuple #[.agg cs.toArray, .agg ds.toArray]) w := by
 have hp' : tmps[p]?.getD undef = .pointer (some ⟨b, 0, none⟩) := by simpa using hp
 have hq' : tmps[q]?.getD undef = .pointer (some ⟨c, 0, none⟩) := by simpa using hq
 simp [results, h, hp', hq', asAddr, run_loadVar_mid w b 0 ty cs d hc hu hr hi, run_loadVar_mid w c 0 uy ds e hd hu2 hr2 hi2]
theorem st_put {W : World} {g : Nat} {a0 a1 : Value} (hb : W.heap[g]? = some (.cells #[a0, a1] 36)) (c0 c1 : Value) (h1 : ∀ v ∈ [c0, c1], v.oneCell' = true) :
  ∃ W8, (Instr.storeAt 36 (.pointer (some ⟨g, 0, none⟩)) (.agg #[c0, c1])).run Tryz.prog W = .ok () W8 ∧ W8.heap[g]? = some (.cells #[c0, c1] 36) ∧ Fr (fun k => k = g) W W8 := by
 refine ⟨W.setCells g 0 [c0, c1], run_storeAt_mid W g 0 36 #[c0, c1] (fun j hj => ?_) (by kernel_rfl) (all_oneCell_toArray (cs := [c0, c1]) h1), ?_, ?_⟩
 ·have hj : j < 2 := hj
  refine ⟨?_, by simp [World.frozen?, hb]⟩
  rcases j with _ | _ | j
  ·simp [World.cell?, hb]
  ·simp [World.cell?, hb]
  ·omega
 ·have k0 := heap_setCell_same W g 0 #[a0, a1] 36 c0 hb
  have k1 := heap_setCell_same _ g 1 _ 36 c1 k0
  simp only [List.setIfInBounds_toArray, List.set_cons_zero, List.set_cons_succ] at k1
  exact k1
 ·exact ((Fr.refl (fun k => k = g) W).setCell (p := ⟨g, 0, none⟩) (.inl rfl) c0).setCell (p := ⟨g, 1, none⟩) (.inl rfl) c1
structure AB (w W : World) (sv rv : Value) (rq : Array Value) (s2 s7 : Array Value) : Prop where
 s : W.heap[w.heap.size]? = some (.cells #[sv, rv] 36)
 r : W.heap[w.heap.size + 1]? = some (.cells rq 41)
 a : W.heap[w.heap.size + 2]? = some (.cells s2 36)
 b : W.heap[w.heap.size + 3]? = some (.cells s7 45)
 f : Fr (fun _ => False) w W
theorem AB.fr {w W W' : World} {sv rv : Value} {rq s2 s7 : Array Value} (h : AB w W sv rv rq s2 s7) (hf : Fr (fun _ => False) W W') : AB w W' sv rv rq s2 s7 :=
 ⟨(hf.block _ (lt_of_block h.s) (fun h => h)).trans h.s, (hf.block _ (lt_of_block h.r) (fun h => h)).trans h.r, (hf.block _ (lt_of_block h.a) (fun h => h)).trans h.a, (hf.block _ (lt_of_block h.b) (fun h => h)).trans h.b, h.f.trans hf (fun _ _ h => h)⟩
theorem AB.putA {w W : World} {sv rv : Value} {rq s7 : Array Value} {a0 a1 : Value} (h : AB w W sv rv rq #[a0, a1] s7) (c0 c1 : Value) (h1 : ∀ v ∈ [c0, c1], v.oneCell' = true) :
  ∃ W8, (Instr.storeAt 36 (.pointer (some ⟨w.heap.size + 2, 0, none⟩)) (.agg #[c0, c1])).run Tryz.prog W = .ok () W8 ∧ AB w W8 sv rv rq #[c0, c1] s7 ∧ Fr (fun k => k = w.heap.size + 2) W W8 := by
 obtain ⟨W8, h2, h3, h4⟩ := st_put h.a c0 c1 h1
 exact ⟨W8, h2, ⟨(h4.block _ (lt_of_block h.s) (by omega)).trans h.s, (h4.block _ (lt_of_block h.r) (by omega)).trans h.r, h3, (h4.block _ (lt_of_block h.b) (by omega)).trans h.b, h.f.absorb h4 (fun k hk => by omega)⟩, h4⟩
theorem AB.putB {w W : World} {sv rv : Value} {rq s2 : Array Value} {a0 a1 a2 a3 a4 a5 a6 : Value} (h : AB w W sv rv rq s2 #[a0, a1, a2, a3, a4, a5, a6]) (c0 c1 c2 c3 c4 c5 c6 : Value) (h1 : ∀ v ∈ [c0, c1, c2, c3, c4, c5, c6], v.oneCell' = true) :
  ∃ W8, (Instr.storeAt 45 (.pointer (some ⟨w.heap.size + 3, 0, none⟩)) (.agg #[c0, c1, c2, c3, c4, c5, c6])).run Tryz.prog W = .ok () W8 ∧ AB w W8 sv rv rq s2 #[c0, c1, c2, c3, c4, c5, c6] ∧ Fr (fun k => k = w.heap.size + 3) W W8 := by
 obtain ⟨W8, h2, h3, h4⟩ := ans_put h.b c0 c1 c2 c3 c4 c5 c6 h1
 exact ⟨W8, h2, ⟨(h4.block _ (lt_of_block h.s) (by omega)).trans h.s, (h4.block _ (lt_of_block h.r) (by omega)).trans h.r, (h4.block _ (lt_of_block h.a) (by omega)).trans h.a, h3, h.f.absorb h4 (fun k hk => by omega)⟩, h4⟩
theorem AB.range {w W : World} {sv rv : Value} {rq : Array Value} {cs ds : List Value} (h : AB w W sv rv rq cs.toArray ds.toArray) : W.rangeAt (w.heap.size + 2) 0 cs ∧ W.rangeAt (w.heap.size + 3) 0 ds := ⟨range_of_block h.a, range_of_block h.b⟩
theorem AB.frS {w W W' : World} {sv rv : Value} {rq s2 s7 : Array Value} {S : Nat → Prop} (h : AB w W sv rv rq s2 s7) (hf : Fr S W W') (hS : ∀ k, S k → w.heap.size + 4 ≤ k) : AB w W' sv rv rq s2 s7 :=
 ⟨(hf.block _ (lt_of_block h.s) (fun h => by have := hS _ h; omega)).trans h.s, (hf.block _ (lt_of_block h.r) (fun h => by have := hS _ h; omega)).trans h.r, (hf.block _ (lt_of_block h.a) (fun h => by have := hS _ h; omega)).trans h.a, (hf.block _ (lt_of_block h.b) (fun h => by have := hS _ h; omega)).trans h.b, h.f.absorb hf (fun k hk => by have := hS k hk; omega)⟩
abbrev S12W (w : World) (so : Option Addr) (sn sc : Nat) (ro : Option Addr) (rn rcap : Nat) (cl nu ac op rc ve wa ow : Nat) (fo : Option Addr) (fn fc : Nat) (rs : ByteArray) (W : World) : Prop := (W.cell? ⟨w.heap.size, 0, none⟩ = some (.slice so sn sc) ∧ W.cell? ⟨w.heap.size, 1, none⟩ = some (.slice ro rn rcap)) ∧ W.cell? ⟨w.heap.size + 1, 0, none⟩ = some (.int .u32 (cl : Nat)) ∧ W.cell? ⟨w.heap.size + 1, 1, none⟩ = some (.int .u32 (nu : Nat)) ∧ W.cell? ⟨w.heap.size + 1, 2, none⟩ = some (.int .u32 (ac : Nat)) ∧ W.cell? ⟨w.heap.size + 1, 3, none⟩ = some (.int .u8 (op : Nat)) ∧ W.cell? ⟨w.heap.size + 1, 4, none⟩ = some (.int .u32 (rc : Nat)) ∧ W.cell? ⟨w.heap.size + 1, 5, none⟩ = some (.int .u32 (ve : Nat)) ∧ W.cell? ⟨w.heap.size + 1, 6, none⟩ = some (.int .u32 (wa : Nat)) ∧ W.cell? ⟨w.heap.size + 1, 7, none⟩ = some (.int .u32 (ow : Nat)) ∧ W.cell? ⟨w.heap.size + 1, 8, none⟩ = some (.slice fo fn fc) ∧ W.cell? ⟨w.heap.size + 1, 9, none⟩ = some (.string rs)
abbrev S19W (w : World) (so : Option Addr) (sn sc : Nat) (ro : Option Addr) (rn rcap : Nat) (cl nu ac op rc ve wa ow : Nat) (fo : Option Addr) (fn fc : Nat) (rs : ByteArray) (b9 : Nat) (a0 a1 a2 a3 a4 a5 a6 : Value) (W : World) : Prop := S12W w so sn sc ro rn rcap cl nu ac op rc ve wa ow fo fn fc rs W ∧ W.cell? ⟨b9, 0, none⟩ = some a0 ∧ W.cell? ⟨b9, 1, none⟩ = some a1 ∧ W.cell? ⟨b9, 2, none⟩ = some a2 ∧ W.cell? ⟨b9, 3, none⟩ = some a3 ∧ W.cell? ⟨b9, 4, none⟩ = some a4 ∧ W.cell? ⟨b9, 5, none⟩ = some a5 ∧ W.cell? ⟨b9, 6, none⟩ = some a6
abbrev S74W (w : World) (so : Option Addr) (sn sc : Nat) (ro : Option Addr) (rn rcap : Nat) (cl nu ac op rc ve wa ow : Nat) (fo : Option Addr) (fn fc : Nat) (rs : ByteArray) (b9 : Nat) (a0 a1 a2 a3 a4 a5 a6 : Value) (bx : Nat) (x0 x1 x2 x3 x4 : Value) (W : World) : Prop := S12W w so sn sc ro rn rcap cl nu ac op rc ve wa ow fo fn fc rs W ∧ (W.cell? ⟨b9, 0, none⟩ = some a0 ∧ W.cell? ⟨b9, 1, none⟩ = some a1 ∧ W.cell? ⟨b9, 2, none⟩ = some a2 ∧ W.cell? ⟨b9, 3, none⟩ = some a3 ∧ W.cell? ⟨b9, 4, none⟩ = some a4 ∧ W.cell? ⟨b9, 5, none⟩ = some a5 ∧ W.cell? ⟨b9, 6, none⟩ = some a6) ∧ W.cell? ⟨bx, 0, none⟩ = some x0 ∧ W.cell? ⟨bx, 1, none⟩ = some x1 ∧ W.cell? ⟨bx, 2, none⟩ = some x2 ∧ W.cell? ⟨bx, 3, none⟩ = some x3 ∧ W.cell? ⟨bx, 4, none⟩ = some x4
section
variable {w W : World} {so : Option Addr} {sn sc : Nat} {ro : Option Addr} {rn rcap : Nat} {cl nu ac op rc ve wa ow : Nat} {fo : Option Addr} {fn fc : Nat} {rs : ByteArray} {s2 s7 : Array Value}
theorem AB.s12 (h : AB w W (.slice so sn sc) (.slice ro rn rcap) #[.int .u32 (cl : Nat), .int .u32 (nu : Nat), .int .u32 (ac : Nat), .int .u8 (op : Nat), .int .u32 (rc : Nat), .int .u32 (ve : Nat), .int .u32 (wa : Nat), .int .u32 (ow : Nat), .slice fo fn fc, .string rs] s2 s7) : S12W w so sn sc ro rn rcap cl nu ac op rc ve wa ow fo fn fc rs W := by
 have h1 := h.s
 have h2 := h.r
 refine ⟨⟨?_, ?_⟩, ?_, ?_, ?_, ?_, ?_, ?_, ?_, ?_, ?_, ?_⟩ <;> simp [World.cell?, h1, h2]
theorem AB.s19 (h : AB w W (.slice so sn sc) (.slice ro rn rcap) #[.int .u32 (cl : Nat), .int .u32 (nu : Nat), .int .u32 (ac : Nat), .int .u8 (op : Nat), .int .u32 (rc : Nat), .int .u32 (ve : Nat), .int .u32 (wa : Nat), .int .u32 (ow : Nat), .slice fo fn fc, .string rs] s2 s7) {b9 : Nat} {a0 a1 a2 a3 a4 a5 a6 : Value} (h9 : W.heap[b9]? = some (.cells #[a0, a1, a2, a3, a4, a5, a6] 45)) : S19W w so sn sc ro rn rcap cl nu ac op rc ve wa ow fo fn fc rs b9 a0 a1 a2 a3 a4 a5 a6 W :=
 ⟨h.s12, by refine ⟨?_, ?_, ?_, ?_, ?_, ?_, ?_⟩ <;> simp [World.cell?, h9]⟩
theorem AB.s74 (h : AB w W (.slice so sn sc) (.slice ro rn rcap) #[.int .u32 (cl : Nat), .int .u32 (nu : Nat), .int .u32 (ac : Nat), .int .u8 (op : Nat), .int .u32 (rc : Nat), .int .u32 (ve : Nat), .int .u32 (wa : Nat), .int .u32 (ow : Nat), .slice fo fn fc, .string rs] s2 s7) {b9 bx : Nat} {a0 a1 a2 a3 a4 a5 a6 x0 x1 x2 x3 x4 : Value} (h9 : W.heap[b9]? = some (.cells #[a0, a1, a2, a3, a4, a5, a6] 45)) (hx : W.heap[bx]? = some (.cells #[x0, x1, x2, x3, x4] 78)) : S74W w so sn sc ro rn rcap cl nu ac op rc ve wa ow fo fn fc rs b9 a0 a1 a2 a3 a4 a5 a6 bx x0 x1 x2 x3 x4 W :=
 ⟨h.s12, by refine ⟨?_, ?_, ?_, ?_, ?_, ?_, ?_⟩ <;> simp [World.cell?, h9], by refine ⟨?_, ?_, ?_, ?_, ?_⟩ <;> simp [World.cell?, hx]⟩
end
theorem ab_new (w : World) (so : Option Addr) (sn sc : Nat) (ro : Option Addr) (rn rcap : Nat) (cl nu ac op rc ve wa ow : Nat) (fo : Option Addr) (fn fc : Nat) (rs : ByteArray) : ∃ W4, W4 = (((w.alloc (.cells #[.slice so sn sc, .slice ro rn rcap] 36)).alloc (.cells #[.int .u32 (cl : Nat), .int .u32 (nu : Nat), .int .u32 (ac : Nat), .int .u8 (op : Nat), .int .u32 (rc : Nat), .int .u32 (ve : Nat), .int .u32 (wa : Nat), .int .u32 (ow : Nat), .slice fo fn fc, .string rs] 41)).alloc (.cells #[.slice none 0 0, .slice none 0 0] 36)).alloc (.cells #[.int .u32 0, .int .u32 0, .int .u8 0, .int .u32 0, .int .u32 0, .slice none 0 0, .slice none 0 0] 45) ∧ AB w W4 (.slice so sn sc) (.slice ro rn rcap) #[.int .u32 (cl : Nat), .int .u32 (nu : Nat), .int .u32 (ac : Nat), .int .u8 (op : Nat), .int .u32 (rc : Nat), .int .u32 (ve : Nat), .int .u32 (wa : Nat), .int .u32 (ow : Nat), .slice fo fn fc, .string rs] #[.slice none 0 0, .slice none 0 0] #[.int .u32 0, .int .u32 0, .int .u8 0, .int .u32 0, .int .u32 0, .slice none 0 0, .slice none 0 0] := by
 refine ⟨_, rfl, ?_⟩
 have e1 := heap_two w (.cells #[.slice so sn sc, .slice ro rn rcap] 36) (.cells #[.int .u32 (cl : Nat), .int .u32 (nu : Nat), .int .u32 (ac : Nat), .int .u8 (op : Nat), .int .u32 (rc : Nat), .int .u32 (ve : Nat), .int .u32 (wa : Nat), .int .u32 (ow : Nat), .slice fo fn fc, .string rs] 41)
 have e2 := heap_two (w.alloc (.cells #[.slice so sn sc, .slice ro rn rcap] 36)) (.cells #[.int .u32 (cl : Nat), .int .u32 (nu : Nat), .int .u32 (ac : Nat), .int .u8 (op : Nat), .int .u32 (rc : Nat), .int .u32 (ve : Nat), .int .u32 (wa : Nat), .int .u32 (ow : Nat), .slice fo fn fc, .string rs] 41) (.cells #[.slice none 0 0, .slice none 0 0] 36)
 have e3 := heap_two ((w.alloc (.cells #[.slice so sn sc, .slice ro rn rcap] 36)).alloc (.cells #[.int .u32 (cl : Nat), .int .u32 (nu : Nat), .int .u32 (ac : Nat), .int .u8 (op : Nat), .int .u32 (rc : Nat), .int .u32 (ve : Nat), .int .u32 (wa : Nat), .int .u32 (ow : Nat), .slice fo fn fc, .string rs] 41)) (.cells #[.slice none 0 0, .slice none 0 0] 36) (.cells #[.int .u32 0, .int .u32 0, .int .u8 0, .int .u32 0, .int .u32 0, .slice none 0 0, .slice none 0 0] 45)
 exact ⟨((((Fr.refl (fun _ => False) _).alloc _).alloc _).alloc _ |>.block _ (by simp) (fun h => h)).trans Array.getElem?_push_size, (((Fr.refl (fun _ => False) _).alloc _).alloc _ |>.block _ (by simp) (fun h => h)).trans e1, ((box1 _ _).block _ (by simp) (fun h => h)).trans (by simpa using e2), by simpa using e3, (((box1 w _).alloc _).alloc _).alloc _⟩
abbrev FoH (w : World) (cl nu ac op rc ve wa ow : Nat) (fo : Option Addr) (fn fc : Nat) (rs : ByteArray) (b : Bool) : Prop := ∀ W, Fr (fun _ => False) w W → Calls Tryz.prog 23 #[.agg #[.int .u32 (cl : Nat), .int .u32 (nu : Nat), .int .u32 (ac : Nat), .int .u8 (op : Nat), .int .u32 (rc : Nat), .int .u32 (ve : Nat), .int .u32 (wa : Nat), .int .u32 (ow : Nat), .slice fo fn fc, .string rs]] W fun e w' => e = .returned (.bool b) ∧ Fr (fun _ => False) W w'
abbrev FdH (w : World) (so : Option Addr) (sn sc ac : Nat) (z : Int) : Prop := ∀ W, Fr (fun _ => False) w W → Calls Tryz.prog 25 #[.slice so sn sc, .int .u32 (ac : Nat)] W fun e w' => e = .returned (.int .i64 z) ∧ w' = W
abbrev JdH (w : World) (so : Option Addr) (sn sc : Nat) (ro : Option Addr) (rn rcap : Nat) (cl nu ac op rc ve wa ow : Nat) (fo : Option Addr) (fn fc : Nat) (rs : ByteArray) (jc : Nat) : Prop := ∀ W, Fr (fun _ => False) w W → Calls Tryz.prog 26 #[.agg #[.slice so sn sc, .slice ro rn rcap], .agg #[.int .u32 (cl : Nat), .int .u32 (nu : Nat), .int .u32 (ac : Nat), .int .u8 (op : Nat), .int .u32 (rc : Nat), .int .u32 (ve : Nat), .int .u32 (wa : Nat), .int .u32 (ow : Nat), .slice fo fn fc, .string rs]] W fun e w' => e = .returned (.int .u8 (jc : Nat)) ∧ Fr (fun _ => False) W w'
abbrev RefP (w : World) (so : Option Addr) (sn sc : Nat) (ro : Option Addr) (rn rcap cl nu co : Nat) (e : Ending) (w' : World) : Prop := e = .returned (.tuple #[.agg #[.slice so sn sc, .slice ro rn rcap], .agg #[.int .u32 (cl : Nat), .int .u32 (nu : Nat), .int .u8 (co : Nat), .int .u32 0, .int .u32 0, .slice none 0 0, .slice none 0 0]]) ∧ Fr (fun _ => False) w w'
set_option maxHeartbeats 4000000 in
set_option maxRecDepth 100000 in
theorem gapply_early (so : Option Addr) (sn sc : Nat) (ro : Option Addr) (rn rcap : Nat) (cl nu ac op rc ve wa ow : Nat) (fo : Option Addr) (fn fc : Nat) (rs : ByteArray) (place : Nat) (w : World) (b : Bool) (HFo : Hid (FoH w cl nu ac op rc ve wa ow fo fn fc rs b)) (z : Int) (HFd : Hid (FdH w so sn sc ac z)) (jc : Nat) (HJ0 : Hid (b = true → ¬ z < 0 → (op = 1 ∨ (¬ rc = 0 ∧ rc ≤ rn)) → JdH w so sn sc ro rn rcap cl nu ac op rc ve wa ow fo fn fc rs jc)) (hrb : rc < 4294967296) (co : Nat) (h2 : b = false → co = 2) (h1 : b = true → z < 0 → co = 1) (h3 : b = true → ¬ z < 0 → ¬ op = 1 → (rc = 0 ∨ rn < rc) → co = 3) (hj : b = true → ¬ z < 0 → (op = 1 ∨ (¬ rc = 0 ∧ rc ≤ rn)) → ¬ jc = 0 ∧ co = jc) :
  Calls Tryz.prog 12 #[.agg #[.slice so sn sc, .slice ro rn rcap], .agg #[.int .u32 (cl : Nat), .int .u32 (nu : Nat), .int .u32 (ac : Nat), .int .u8 (op : Nat), .int .u32 (rc : Nat), .int .u32 (ve : Nat), .int .u32 (wa : Nat), .int .u32 (ow : Nat), .slice fo fn fc, .string rs], .int .u32 (place : Nat)] w fun e w' => RefP w so sn sc ro rn rcap cl nu co e w' := by
 have HH := hide (And.intro h2 (And.intro h1 (And.intro h3 hj)))
 clear h2 h1 h3 hj
 obtain ⟨W4, hW4, a4⟩ := ab_new w so sn sc ro rn rcap cl nu ac op rc ve wa ow fo fn fc rs
 have A4 := hide a4
 clear a4
 have HRf := hide (fun (co : Nat) W => grefused_any cl nu ac op rc ve wa ow co fo fn fc rs W)
 go_enter Tryz.func12, Tryz.ntmps12
 go_wp2_with fail
 rw [← hW4]
 clear hW4
 refine ((unhide HFo) _ (unhide A4).f).mono ?_
 rintro e w5 ⟨rfl, hf5⟩
 have A5 := hide ((unhide A4).fr hf5)
 clear hf5 A4
 cases b
 ·go_wp2_with fail
  refine wp_region_noPanic ?_
  have B0 := hide ((unhide A5).fr (Fr.refl _ _).drew)
  refine wp_region_held_drew (S := S12W w so sn sc ro rn rcap cl nu ac op rc ve wa ow fo fn fc rs) (by kernel_rfl) (unhide B0).s12 (fun hHeld => ?_)
  refine wtk (i := 0) (v := ?_) rfl (Or.inl ⟨by rfl, ?_⟩) hHeld ?_
  rotate_left
  ·intro w hSw; dsimp only [S12W] at hSw; go_simp; (try with_reducible rfl)
  (try simp only [Act.put, nrm])
  refine wtk (i := 1) (v := ?_) rfl (Or.inl ⟨by rfl, ?_⟩) hHeld ?_
  rotate_left
  ·intro w hSw; dsimp only [S12W] at hSw; go_simp; (try with_reducible rfl)
  (try simp only [Act.put, nrm])
  refine wpAnyH_ready (rs := [2]) (by kernel_rfl) (by simp) (AllReadyH.cons rfl (fun K hK => ?_) (AllReadyH.nil))
  go_simp
  refine ((unhide HRf) 2 _).mono ?_
  rintro e w1 ⟨rfl, f1⟩
  have B1 := hide ((unhide B0).fr f1)
  clear f1
  go_simp
  refine hK.out _ _ (unhide B1).s12 (fun hHeld => ?_)
  clear hK K
  (try simp only [Act.put, nrm])
  refine wpAnyH_ready (rs := [3]) (by kernel_rfl) (by simp) (AllReadyH.cons rfl (fun K hK => ?_) (AllReadyH.nil))
  obtain ⟨W2, st2, a2, _⟩ := (unhide B1).putA (.slice so sn sc) (.slice ro rn rcap) (fun u hu => by simp at hu; rcases hu with rfl | rfl <;> rfl)
  have H2 := hide st2
  have B2 := hide a2
  clear st2 a2
  refine step_stN rfl 36 (.tmp 6) (.tmp 26) rfl _ _ (by simp [Act.eval]) (by simp [Act.eval]) (unhide H2) ?_
  refine hK.out _ _ (unhide B2).s12 (fun hHeld => ?_)
  clear hK K
  (try simp only [Act.put])
  refine wpAnyH_ready (rs := [4]) (by kernel_rfl) (by simp) (AllReadyH.cons rfl (fun K hK => ?_) (AllReadyH.nil))
  obtain ⟨W3, st3, a3, _⟩ := (unhide B2).putB (.int .u32 (cl : Nat)) (.int .u32 (nu : Nat)) (.int .u8 2) (.int .u32 0) (.int .u32 0) (.slice none 0 0) (.slice none 0 0) (fun u hu => by simp at hu; rcases hu with rfl | rfl | rfl | rfl | rfl | rfl | rfl <;> rfl)
  have H3 := hide st3
  have B3 := hide a3
  clear st3 a3
  refine step_stN rfl 45 (.tmp 7) (.tmp 28) rfl _ _ (by simp [Act.eval]) (by simp [Act.eval]) (unhide H3) ?_
  refine hK.out _ _ (unhide B3).s12 (fun hHeld => ?_)
  clear hK K
  (try simp only [Act.put])
  refine wpAnyH_done (by kernel_rfl) ?_ _
  refine NoPanic.normal ?_
  go_wp2_with fail
  refine bodyPost_ret (results_cells2 rfl _ _ (w.heap.size + 2) (w.heap.size + 3) [.slice so sn sc, .slice ro rn rcap] [.int .u32 (cl : Nat), .int .u32 (nu : Nat), .int .u8 2, .int .u32 0, .int .u32 0, .slice none 0 0, .slice none 0 0] _ _ rfl rfl (unhide B3).range.1 (unhide B3).range.2 Tryz.underlying36 rfl (by kernel_rfl) Tryz.underlying45 rfl (by kernel_rfl)) rfl ?_
  exact ⟨by rw [(unhide HH).1 (by trivial)]; rfl, (unhide B3).f⟩
 ·by_cases hz : z < 0
  ·have z1 : decide (z < 0) = true := decide_eq_true hz
   obtain ⟨⟨p0, p1⟩, q0, q1, q2, q3, q4, q5, q6, q7, q8, q9⟩ := (unhide A5).s12
   go_wp2_with fail
   refine ((unhide HFd) _ (unhide A5).f).mono ?_
   rintro e w6 ⟨rfl, hw6⟩
   obtain rfl := hw6.symm
   clear hw6
   go_wp2_with fail
   clear p0 p1 q0 q1 q2 q3 q4 q5 q6 q7 q8 q9
   refine wp_region_noPanic ?_
   have B0 := hide ((unhide A5).fr (Fr.refl _ _).drew)
   refine wp_region_held_drew (S := S12W w so sn sc ro rn rcap cl nu ac op rc ve wa ow fo fn fc rs) (by kernel_rfl) (unhide B0).s12 (fun hHeld => ?_)
   refine wtk (i := 0) (v := ?_) rfl (Or.inl ⟨by rfl, ?_⟩) hHeld ?_
   rotate_left
   ·intro w hSw; dsimp only [S12W] at hSw; go_simp; (try with_reducible rfl)
   (try simp only [Act.put, nrm])
   refine wtk (i := 1) (v := ?_) rfl (Or.inl ⟨by rfl, ?_⟩) hHeld ?_
   rotate_left
   ·intro w hSw; dsimp only [S12W] at hSw; go_simp; (try with_reducible rfl)
   (try simp only [Act.put, nrm])
   refine wpAnyH_ready (rs := [2]) (by kernel_rfl) (by simp) (AllReadyH.cons rfl (fun K hK => ?_) (AllReadyH.nil))
   go_simp
   refine ((unhide HRf) 1 _).mono ?_
   rintro e w1 ⟨rfl, f1⟩
   have B1 := hide ((unhide B0).fr f1)
   clear f1
   go_simp
   refine hK.out _ _ (unhide B1).s12 (fun hHeld => ?_)
   clear hK K
   (try simp only [Act.put, nrm])
   refine wpAnyH_ready (rs := [3]) (by kernel_rfl) (by simp) (AllReadyH.cons rfl (fun K hK => ?_) (AllReadyH.nil))
   obtain ⟨W2, st2, a2, _⟩ := (unhide B1).putA (.slice so sn sc) (.slice ro rn rcap) (fun u hu => by simp at hu; rcases hu with rfl | rfl <;> rfl)
   have H2 := hide st2
   have B2 := hide a2
   clear st2 a2
   refine step_stN rfl 36 (.tmp 6) (.tmp 35) rfl _ _ (by simp [Act.eval]) (by simp [Act.eval]) (unhide H2) ?_
   refine hK.out _ _ (unhide B2).s12 (fun hHeld => ?_)
   clear hK K
   (try simp only [Act.put])
   refine wpAnyH_ready (rs := [4]) (by kernel_rfl) (by simp) (AllReadyH.cons rfl (fun K hK => ?_) (AllReadyH.nil))
   obtain ⟨W3, st3, a3, _⟩ := (unhide B2).putB (.int .u32 (cl : Nat)) (.int .u32 (nu : Nat)) (.int .u8 1) (.int .u32 0) (.int .u32 0) (.slice none 0 0) (.slice none 0 0) (fun u hu => by simp at hu; rcases hu with rfl | rfl | rfl | rfl | rfl | rfl | rfl <;> rfl)
   have H3 := hide st3
   have B3 := hide a3
   clear st3 a3
   refine step_stN rfl 45 (.tmp 7) (.tmp 37) rfl _ _ (by simp [Act.eval]) (by simp [Act.eval]) (unhide H3) ?_
   refine hK.out _ _ (unhide B3).s12 (fun hHeld => ?_)
   clear hK K
   (try simp only [Act.put])
   refine wpAnyH_done (by kernel_rfl) ?_ _
   refine NoPanic.normal ?_
   go_wp2_with fail
   refine bodyPost_ret (results_cells2 rfl _ _ (w.heap.size + 2) (w.heap.size + 3) [.slice so sn sc, .slice ro rn rcap] [.int .u32 (cl : Nat), .int .u32 (nu : Nat), .int .u8 1, .int .u32 0, .int .u32 0, .slice none 0 0, .slice none 0 0] _ _ rfl rfl (unhide B3).range.1 (unhide B3).range.2 Tryz.underlying36 rfl (by kernel_rfl) Tryz.underlying45 rfl (by kernel_rfl)) rfl ?_
   exact ⟨by rw [(unhide HH).2.1 (by trivial) hz]; rfl, (unhide B3).f⟩
  have z1 : decide (z < 0) = false := decide_eq_false (by omega)
  have z2 : ¬ z < 0 := by omega
  have HZ := hide hz
  clear hz
  obtain ⟨⟨p0, p1⟩, q0, q1, q2, q3, q4, q5, q6, q7, q8, q9⟩ := (unhide A5).s12
  go_wp2_with fail
  refine ((unhide HFd) _ (unhide A5).f).mono ?_
  rintro e w6 ⟨rfl, hw6⟩
  obtain rfl := hw6.symm
  clear hw6
  clear p0 p1 q0 q1 q2 q3 q4 q5 q6 q7 q8 q9
  by_cases ho : op = 1
  ·have o1 : ((op : Int) != 1) = false := by rw [bne_eq_false_iff_eq]; omega
   obtain ⟨hj0, hcj⟩ := (unhide HH).2.2.2 (by trivial) (unhide HZ) (.inl ho)
   have HJd := hide ((unhide HJ0) (by trivial) (unhide HZ) (.inl ho))
   have j1 : ((jc : Int) != 0) = true := by rw [bne_iff_ne]; omega
   have HCJ := hide hcj
   clear hcj hj0
   clear ho
   obtain ⟨⟨p0, p1⟩, q0, q1, q2, q3, q4, q5, q6, q7, q8, q9⟩ := (unhide A5).s12
   go_wp2_with fail
   refine ((unhide HJd) _ (unhide A5).f).mono ?_
   rintro e w7 ⟨rfl, f7⟩
   have A7 := hide ((unhide A5).fr f7)
   clear f7 A5
   go_wp2_with fail
   clear p0 p1 q0 q1 q2 q3 q4 q5 q6 q7 q8 q9
   refine wp_region_noPanic ?_
   have B0 := hide ((unhide A7).fr (Fr.refl _ _).drew)
   refine wp_region_held_drew (S := S12W w so sn sc ro rn rcap cl nu ac op rc ve wa ow fo fn fc rs) (by kernel_rfl) (unhide B0).s12 (fun hHeld => ?_)
   refine wtk (i := 0) (v := ?_) rfl (Or.inl ⟨by rfl, ?_⟩) hHeld ?_
   rotate_left
   ·intro w hSw; dsimp only [S12W] at hSw; go_simp; (try with_reducible rfl)
   (try simp only [Act.put, nrm])
   refine wtk (i := 1) (v := ?_) rfl (Or.inl ⟨by rfl, ?_⟩) hHeld ?_
   rotate_left
   ·intro w hSw; dsimp only [S12W] at hSw; go_simp; (try with_reducible rfl)
   (try simp only [Act.put, nrm])
   refine wtk (i := 2) (v := ?_) rfl (Or.inl ⟨by rfl, ?_⟩) hHeld ?_
   rotate_left
   ·intro w hSw; dsimp only [S12W] at hSw; go_simp; (try with_reducible rfl)
   (try simp only [Act.put, nrm])
   refine wpAnyH_ready (rs := [3]) (by kernel_rfl) (by simp) (AllReadyH.cons rfl (fun K hK => ?_) (AllReadyH.nil))
   go_simp
   refine ((unhide HRf) jc _).mono ?_
   rintro e w1 ⟨rfl, f1⟩
   have B1 := hide ((unhide B0).fr f1)
   clear f1
   go_simp
   refine hK.out _ _ (unhide B1).s12 (fun hHeld => ?_)
   clear hK K
   (try simp only [Act.put, nrm])
   refine wpAnyH_ready (rs := [4]) (by kernel_rfl) (by simp) (AllReadyH.cons rfl (fun K hK => ?_) (AllReadyH.nil))
   obtain ⟨W2, st2, a2, _⟩ := (unhide B1).putA (.slice so sn sc) (.slice ro rn rcap) (fun u hu => by simp at hu; rcases hu with rfl | rfl <;> rfl)
   have H2 := hide st2
   have B2 := hide a2
   clear st2 a2
   refine step_stN rfl 36 (.tmp 6) (.tmp 63) rfl _ _ (by simp [Act.eval]) (by simp [Act.eval]) (unhide H2) ?_
   refine hK.out _ _ (unhide B2).s12 (fun hHeld => ?_)
   clear hK K
   (try simp only [Act.put])
   refine wpAnyH_ready (rs := [5]) (by kernel_rfl) (by simp) (AllReadyH.cons rfl (fun K hK => ?_) (AllReadyH.nil))
   obtain ⟨W3, st3, a3, _⟩ := (unhide B2).putB (.int .u32 (cl : Nat)) (.int .u32 (nu : Nat)) (.int .u8 (jc : Nat)) (.int .u32 0) (.int .u32 0) (.slice none 0 0) (.slice none 0 0) (fun u hu => by simp at hu; rcases hu with rfl | rfl | rfl | rfl | rfl | rfl | rfl <;> rfl)
   have H3 := hide st3
   have B3 := hide a3
   clear st3 a3
   refine step_stN rfl 45 (.tmp 7) (.tmp 66) rfl _ _ (by simp [Act.eval]) (by simp [Act.eval]) (unhide H3) ?_
   refine hK.out _ _ (unhide B3).s12 (fun hHeld => ?_)
   clear hK K
   (try simp only [Act.put])
   refine wpAnyH_done (by kernel_rfl) ?_ _
   refine NoPanic.normal ?_
   go_wp2_with fail
   refine bodyPost_ret (results_cells2 rfl _ _ (w.heap.size + 2) (w.heap.size + 3) [.slice so sn sc, .slice ro rn rcap] [.int .u32 (cl : Nat), .int .u32 (nu : Nat), .int .u8 (jc : Nat), .int .u32 0, .int .u32 0, .slice none 0 0, .slice none 0 0] _ _ rfl rfl (unhide B3).range.1 (unhide B3).range.2 Tryz.underlying36 rfl (by kernel_rfl) Tryz.underlying45 rfl (by kernel_rfl)) rfl ?_
   exact ⟨by rw [unhide HCJ], (unhide B3).f⟩
  ·by_cases hr : rc = 0 ∨ rn < rc
   ·have HC3 := hide ((unhide HH).2.2.1 (by trivial) (unhide HZ) ho hr)
    rcases hr with hr | hr
    ·have o1 : ((op : Int) != 1) = true := by rw [bne_iff_ne]; omega
     have r1 : ((rc : Int) == 0) = true := by rw [beq_iff_eq]; omega
     clear ho hr
     obtain ⟨⟨p0, p1⟩, q0, q1, q2, q3, q4, q5, q6, q7, q8, q9⟩ := (unhide A5).s12
     go_wp2_with fail
     clear p0 p1 q0 q1 q2 q3 q4 q5 q6 q7 q8 q9
     refine wp_region_noPanic ?_
     have B0 := hide ((unhide A5).fr (Fr.refl _ _).drew)
     refine wp_region_held_drew (S := S12W w so sn sc ro rn rcap cl nu ac op rc ve wa ow fo fn fc rs) (by kernel_rfl) (unhide B0).s12 (fun hHeld => ?_)
     refine wtk (i := 0) (v := ?_) rfl (Or.inl ⟨by rfl, ?_⟩) hHeld ?_
     rotate_left
     ·intro w hSw; dsimp only [S12W] at hSw; go_simp; (try with_reducible rfl)
     (try simp only [Act.put, nrm])
     refine wtk (i := 1) (v := ?_) rfl (Or.inl ⟨by rfl, ?_⟩) hHeld ?_
     rotate_left
     ·intro w hSw; dsimp only [S12W] at hSw; go_simp; (try with_reducible rfl)
     (try simp only [Act.put, nrm])
     refine wpAnyH_ready (rs := [2]) (by kernel_rfl) (by simp) (AllReadyH.cons rfl (fun K hK => ?_) (AllReadyH.nil))
     go_simp
     refine ((unhide HRf) 3 _).mono ?_
     rintro e w1 ⟨rfl, f1⟩
     have B1 := hide ((unhide B0).fr f1)
     clear f1
     go_simp
     refine hK.out _ _ (unhide B1).s12 (fun hHeld => ?_)
     clear hK K
     (try simp only [Act.put, nrm])
     refine wpAnyH_ready (rs := [3]) (by kernel_rfl) (by simp) (AllReadyH.cons rfl (fun K hK => ?_) (AllReadyH.nil))
     obtain ⟨W2, st2, a2, _⟩ := (unhide B1).putA (.slice so sn sc) (.slice ro rn rcap) (fun u hu => by simp at hu; rcases hu with rfl | rfl <;> rfl)
     have H2 := hide st2
     have B2 := hide a2
     clear st2 a2
     refine step_stN rfl 36 (.tmp 6) (.tmp 55) rfl _ _ (by simp [Act.eval]) (by simp [Act.eval]) (unhide H2) ?_
     refine hK.out _ _ (unhide B2).s12 (fun hHeld => ?_)
     clear hK K
     (try simp only [Act.put])
     refine wpAnyH_ready (rs := [4]) (by kernel_rfl) (by simp) (AllReadyH.cons rfl (fun K hK => ?_) (AllReadyH.nil))
     obtain ⟨W3, st3, a3, _⟩ := (unhide B2).putB (.int .u32 (cl : Nat)) (.int .u32 (nu : Nat)) (.int .u8 3) (.int .u32 0) (.int .u32 0) (.slice none 0 0) (.slice none 0 0) (fun u hu => by simp at hu; rcases hu with rfl | rfl | rfl | rfl | rfl | rfl | rfl <;> rfl)
     have H3 := hide st3
     have B3 := hide a3
     clear st3 a3
     refine step_stN rfl 45 (.tmp 7) (.tmp 57) rfl _ _ (by simp [Act.eval]) (by simp [Act.eval]) (unhide H3) ?_
     refine hK.out _ _ (unhide B3).s12 (fun hHeld => ?_)
     clear hK K
     (try simp only [Act.put])
     refine wpAnyH_done (by kernel_rfl) ?_ _
     refine NoPanic.normal ?_
     go_wp2_with fail
     refine bodyPost_ret (results_cells2 rfl _ _ (w.heap.size + 2) (w.heap.size + 3) [.slice so sn sc, .slice ro rn rcap] [.int .u32 (cl : Nat), .int .u32 (nu : Nat), .int .u8 3, .int .u32 0, .int .u32 0, .slice none 0 0, .slice none 0 0] _ _ rfl rfl (unhide B3).range.1 (unhide B3).range.2 Tryz.underlying36 rfl (by kernel_rfl) Tryz.underlying45 rfl (by kernel_rfl)) rfl ?_
     exact ⟨by rw [unhide HC3]; rfl, (unhide B3).f⟩
    by_cases hr0 : rc = 0
    ·have o1 : ((op : Int) != 1) = true := by rw [bne_iff_ne]; omega
     have r1 : ((rc : Int) == 0) = true := by rw [beq_iff_eq]; omega
     clear ho hr hr0
     obtain ⟨⟨p0, p1⟩, q0, q1, q2, q3, q4, q5, q6, q7, q8, q9⟩ := (unhide A5).s12
     go_wp2_with fail
     clear p0 p1 q0 q1 q2 q3 q4 q5 q6 q7 q8 q9
     refine wp_region_noPanic ?_
     have B0 := hide ((unhide A5).fr (Fr.refl _ _).drew)
     refine wp_region_held_drew (S := S12W w so sn sc ro rn rcap cl nu ac op rc ve wa ow fo fn fc rs) (by kernel_rfl) (unhide B0).s12 (fun hHeld => ?_)
     refine wtk (i := 0) (v := ?_) rfl (Or.inl ⟨by rfl, ?_⟩) hHeld ?_
     rotate_left
     ·intro w hSw; dsimp only [S12W] at hSw; go_simp; (try with_reducible rfl)
     (try simp only [Act.put, nrm])
     refine wtk (i := 1) (v := ?_) rfl (Or.inl ⟨by rfl, ?_⟩) hHeld ?_
     rotate_left
     ·intro w hSw; dsimp only [S12W] at hSw; go_simp; (try with_reducible rfl)
     (try simp only [Act.put, nrm])
     refine wpAnyH_ready (rs := [2]) (by kernel_rfl) (by simp) (AllReadyH.cons rfl (fun K hK => ?_) (AllReadyH.nil))
     go_simp
     refine ((unhide HRf) 3 _).mono ?_
     rintro e w1 ⟨rfl, f1⟩
     have B1 := hide ((unhide B0).fr f1)
     clear f1
     go_simp
     refine hK.out _ _ (unhide B1).s12 (fun hHeld => ?_)
     clear hK K
     (try simp only [Act.put, nrm])
     refine wpAnyH_ready (rs := [3]) (by kernel_rfl) (by simp) (AllReadyH.cons rfl (fun K hK => ?_) (AllReadyH.nil))
     obtain ⟨W2, st2, a2, _⟩ := (unhide B1).putA (.slice so sn sc) (.slice ro rn rcap) (fun u hu => by simp at hu; rcases hu with rfl | rfl <;> rfl)
     have H2 := hide st2
     have B2 := hide a2
     clear st2 a2
     refine step_stN rfl 36 (.tmp 6) (.tmp 55) rfl _ _ (by simp [Act.eval]) (by simp [Act.eval]) (unhide H2) ?_
     refine hK.out _ _ (unhide B2).s12 (fun hHeld => ?_)
     clear hK K
     (try simp only [Act.put])
     refine wpAnyH_ready (rs := [4]) (by kernel_rfl) (by simp) (AllReadyH.cons rfl (fun K hK => ?_) (AllReadyH.nil))
     obtain ⟨W3, st3, a3, _⟩ := (unhide B2).putB (.int .u32 (cl : Nat)) (.int .u32 (nu : Nat)) (.int .u8 3) (.int .u32 0) (.int .u32 0) (.slice none 0 0) (.slice none 0 0) (fun u hu => by simp at hu; rcases hu with rfl | rfl | rfl | rfl | rfl | rfl | rfl <;> rfl)
     have H3 := hide st3
     have B3 := hide a3
     clear st3 a3
     refine step_stN rfl 45 (.tmp 7) (.tmp 57) rfl _ _ (by simp [Act.eval]) (by simp [Act.eval]) (unhide H3) ?_
     refine hK.out _ _ (unhide B3).s12 (fun hHeld => ?_)
     clear hK K
     (try simp only [Act.put])
     refine wpAnyH_done (by kernel_rfl) ?_ _
     refine NoPanic.normal ?_
     go_wp2_with fail
     refine bodyPost_ret (results_cells2 rfl _ _ (w.heap.size + 2) (w.heap.size + 3) [.slice so sn sc, .slice ro rn rcap] [.int .u32 (cl : Nat), .int .u32 (nu : Nat), .int .u8 3, .int .u32 0, .int .u32 0, .slice none 0 0, .slice none 0 0] _ _ rfl rfl (unhide B3).range.1 (unhide B3).range.2 Tryz.underlying36 rfl (by kernel_rfl) Tryz.underlying45 rfl (by kernel_rfl)) rfl ?_
     exact ⟨by rw [unhide HC3]; rfl, (unhide B3).f⟩
    have o1 : ((op : Int) != 1) = true := by rw [bne_iff_ne]; omega
    have r1 : ((rc : Int) == 0) = false := by rw [beq_eq_false_iff_ne]; omega
    have r2 : IntKind.i64.wrap (rc : Int) = (rc : Int) := by rw [IntKind.wrap_i64]; omega
    have r3 : rn < rc := by omega
    have r4 : (rn : Int) < (rc : Int) := by omega
    clear ho hr hr0
    obtain ⟨⟨p0, p1⟩, q0, q1, q2, q3, q4, q5, q6, q7, q8, q9⟩ := (unhide A5).s12
    go_wp2_with fail
    clear p0 p1 q0 q1 q2 q3 q4 q5 q6 q7 q8 q9
    refine wp_region_noPanic ?_
    have B0 := hide ((unhide A5).fr (Fr.refl _ _).drew)
    refine wp_region_held_drew (S := S12W w so sn sc ro rn rcap cl nu ac op rc ve wa ow fo fn fc rs) (by kernel_rfl) (unhide B0).s12 (fun hHeld => ?_)
    refine wtk (i := 0) (v := ?_) rfl (Or.inl ⟨by rfl, ?_⟩) hHeld ?_
    rotate_left
    ·intro w hSw; dsimp only [S12W] at hSw; go_simp; (try with_reducible rfl)
    (try simp only [Act.put, nrm])
    refine wtk (i := 1) (v := ?_) rfl (Or.inl ⟨by rfl, ?_⟩) hHeld ?_
    rotate_left
    ·intro w hSw; dsimp only [S12W] at hSw; go_simp; (try with_reducible rfl)
    (try simp only [Act.put, nrm])
    refine wpAnyH_ready (rs := [2]) (by kernel_rfl) (by simp) (AllReadyH.cons rfl (fun K hK => ?_) (AllReadyH.nil))
    go_simp
    refine ((unhide HRf) 3 _).mono ?_
    rintro e w1 ⟨rfl, f1⟩
    have B1 := hide ((unhide B0).fr f1)
    clear f1
    go_simp
    refine hK.out _ _ (unhide B1).s12 (fun hHeld => ?_)
    clear hK K
    (try simp only [Act.put, nrm])
    refine wpAnyH_ready (rs := [3]) (by kernel_rfl) (by simp) (AllReadyH.cons rfl (fun K hK => ?_) (AllReadyH.nil))
    obtain ⟨W2, st2, a2, _⟩ := (unhide B1).putA (.slice so sn sc) (.slice ro rn rcap) (fun u hu => by simp at hu; rcases hu with rfl | rfl <;> rfl)
    have H2 := hide st2
    have B2 := hide a2
    clear st2 a2
    refine step_stN rfl 36 (.tmp 6) (.tmp 55) rfl _ _ (by simp [Act.eval]) (by simp [Act.eval]) (unhide H2) ?_
    refine hK.out _ _ (unhide B2).s12 (fun hHeld => ?_)
    clear hK K
    (try simp only [Act.put])
    refine wpAnyH_ready (rs := [4]) (by kernel_rfl) (by simp) (AllReadyH.cons rfl (fun K hK => ?_) (AllReadyH.nil))
    obtain ⟨W3, st3, a3, _⟩ := (unhide B2).putB (.int .u32 (cl : Nat)) (.int .u32 (nu : Nat)) (.int .u8 3) (.int .u32 0) (.int .u32 0) (.slice none 0 0) (.slice none 0 0) (fun u hu => by simp at hu; rcases hu with rfl | rfl | rfl | rfl | rfl | rfl | rfl <;> rfl)
    have H3 := hide st3
    have B3 := hide a3
    clear st3 a3
    refine step_stN rfl 45 (.tmp 7) (.tmp 57) rfl _ _ (by simp [Act.eval]) (by simp [Act.eval]) (unhide H3) ?_
    refine hK.out _ _ (unhide B3).s12 (fun hHeld => ?_)
    clear hK K
    (try simp only [Act.put])
    refine wpAnyH_done (by kernel_rfl) ?_ _
    refine NoPanic.normal ?_
    go_wp2_with fail
    refine bodyPost_ret (results_cells2 rfl _ _ (w.heap.size + 2) (w.heap.size + 3) [.slice so sn sc, .slice ro rn rcap] [.int .u32 (cl : Nat), .int .u32 (nu : Nat), .int .u8 3, .int .u32 0, .int .u32 0, .slice none 0 0, .slice none 0 0] _ _ rfl rfl (unhide B3).range.1 (unhide B3).range.2 Tryz.underlying36 rfl (by kernel_rfl) Tryz.underlying45 rfl (by kernel_rfl)) rfl ?_
    exact ⟨by rw [unhide HC3]; rfl, (unhide B3).f⟩
   have o1 : ((op : Int) != 1) = true := by rw [bne_iff_ne]; omega
   have hr0 : ¬ rc = 0 := fun e => hr (.inl e)
   have hrn : rc ≤ rn := by omega
   have r1 : ((rc : Int) == 0) = false := by rw [beq_eq_false_iff_ne]; omega
   have r2 : IntKind.i64.wrap (rc : Int) = (rc : Int) := by rw [IntKind.wrap_i64]; omega
   have r3 : ¬ rn < rc := by omega
   have r4 : ¬ (rn : Int) < (rc : Int) := by omega
   obtain ⟨hj0, hcj⟩ := (unhide HH).2.2.2 (by trivial) (unhide HZ) (.inr ⟨hr0, hrn⟩)
   have HJd := hide ((unhide HJ0) (by trivial) (unhide HZ) (.inr ⟨hr0, hrn⟩))
   have j1 : ((jc : Int) != 0) = true := by rw [bne_iff_ne]; omega
   have HCJ := hide hcj
   clear hcj hj0
   clear ho hr hr0 hrn
   obtain ⟨⟨p0, p1⟩, q0, q1, q2, q3, q4, q5, q6, q7, q8, q9⟩ := (unhide A5).s12
   go_wp2_with fail
   refine ((unhide HJd) _ (unhide A5).f).mono ?_
   rintro e w7 ⟨rfl, f7⟩
   have A7 := hide ((unhide A5).fr f7)
   clear f7 A5
   go_wp2_with fail
   clear p0 p1 q0 q1 q2 q3 q4 q5 q6 q7 q8 q9
   refine wp_region_noPanic ?_
   have B0 := hide ((unhide A7).fr (Fr.refl _ _).drew)
   refine wp_region_held_drew (S := S12W w so sn sc ro rn rcap cl nu ac op rc ve wa ow fo fn fc rs) (by kernel_rfl) (unhide B0).s12 (fun hHeld => ?_)
   refine wtk (i := 0) (v := ?_) rfl (Or.inl ⟨by rfl, ?_⟩) hHeld ?_
   rotate_left
   ·intro w hSw; dsimp only [S12W] at hSw; go_simp; (try with_reducible rfl)
   (try simp only [Act.put, nrm])
   refine wtk (i := 1) (v := ?_) rfl (Or.inl ⟨by rfl, ?_⟩) hHeld ?_
   rotate_left
   ·intro w hSw; dsimp only [S12W] at hSw; go_simp; (try with_reducible rfl)
   (try simp only [Act.put, nrm])
   refine wtk (i := 2) (v := ?_) rfl (Or.inl ⟨by rfl, ?_⟩) hHeld ?_
   rotate_left
   ·intro w hSw; dsimp only [S12W] at hSw; go_simp; (try with_reducible rfl)
   (try simp only [Act.put, nrm])
   refine wpAnyH_ready (rs := [3]) (by kernel_rfl) (by simp) (AllReadyH.cons rfl (fun K hK => ?_) (AllReadyH.nil))
   go_simp
   refine ((unhide HRf) jc _).mono ?_
   rintro e w1 ⟨rfl, f1⟩
   have B1 := hide ((unhide B0).fr f1)
   clear f1
   go_simp
   refine hK.out _ _ (unhide B1).s12 (fun hHeld => ?_)
   clear hK K
   (try simp only [Act.put, nrm])
   refine wpAnyH_ready (rs := [4]) (by kernel_rfl) (by simp) (AllReadyH.cons rfl (fun K hK => ?_) (AllReadyH.nil))
   obtain ⟨W2, st2, a2, _⟩ := (unhide B1).putA (.slice so sn sc) (.slice ro rn rcap) (fun u hu => by simp at hu; rcases hu with rfl | rfl <;> rfl)
   have H2 := hide st2
   have B2 := hide a2
   clear st2 a2
   refine step_stN rfl 36 (.tmp 6) (.tmp 63) rfl _ _ (by simp [Act.eval]) (by simp [Act.eval]) (unhide H2) ?_
   refine hK.out _ _ (unhide B2).s12 (fun hHeld => ?_)
   clear hK K
   (try simp only [Act.put])
   refine wpAnyH_ready (rs := [5]) (by kernel_rfl) (by simp) (AllReadyH.cons rfl (fun K hK => ?_) (AllReadyH.nil))
   obtain ⟨W3, st3, a3, _⟩ := (unhide B2).putB (.int .u32 (cl : Nat)) (.int .u32 (nu : Nat)) (.int .u8 (jc : Nat)) (.int .u32 0) (.int .u32 0) (.slice none 0 0) (.slice none 0 0) (fun u hu => by simp at hu; rcases hu with rfl | rfl | rfl | rfl | rfl | rfl | rfl <;> rfl)
   have H3 := hide st3
   have B3 := hide a3
   clear st3 a3
   refine step_stN rfl 45 (.tmp 7) (.tmp 66) rfl _ _ (by simp [Act.eval]) (by simp [Act.eval]) (unhide H3) ?_
   refine hK.out _ _ (unhide B3).s12 (fun hHeld => ?_)
   clear hK K
   (try simp only [Act.put])
   refine wpAnyH_done (by kernel_rfl) ?_ _
   refine NoPanic.normal ?_
   go_wp2_with fail
   refine bodyPost_ret (results_cells2 rfl _ _ (w.heap.size + 2) (w.heap.size + 3) [.slice so sn sc, .slice ro rn rcap] [.int .u32 (cl : Nat), .int .u32 (nu : Nat), .int .u8 (jc : Nat), .int .u32 0, .int .u32 0, .slice none 0 0, .slice none 0 0] _ _ rfl rfl (unhide B3).range.1 (unhide B3).range.2 Tryz.underlying36 rfl (by kernel_rfl) Tryz.underlying45 rfl (by kernel_rfl)) rfl ?_
   exact ⟨by rw [unhide HCJ], (unhide B3).f⟩
set_option maxHeartbeats 4000000 in
set_option maxRecDepth 100000 in
theorem gapply_create (so : Option Addr) (sn sc : Nat) (ro : Option Addr) (rn rcap : Nat) (cl nu ac op rc ve wa ow : Nat) (fo : Option Addr) (fn fc : Nat) (rs : ByteArray) (place : Nat) (w : World) (HFo : Hid (FoH w cl nu ac op rc ve wa ow fo fn fc rs true)) (z : Int) (HFd : Hid (FdH w so sn sc ac z)) (hz : ¬ z < 0) (jc : Nat) (HJd : Hid (JdH w so sn sc ro rn rcap cl nu ac op rc ve wa ow fo fn fc rs jc)) (hj : jc = 0) (ho : op = 1) (hn : rn ≤ 256) (S : List P3) (L : List GC) (T : Nat → Prop) (F : List F5) (hst : GSt w T (.slice so sn sc) (.slice ro rn rcap) S L) (hF : Fds w (.slice fo fn fc) F) (hFT : ∀ k, Blk (.slice fo fn fc) k → T k) (hone : ∀ y ∈ L, y.one) :
  Calls Tryz.prog 12 #[.agg #[.slice so sn sc, .slice ro rn rcap], .agg #[.int .u32 (cl : Nat), .int .u32 (nu : Nat), .int .u32 (ac : Nat), .int .u8 (op : Nat), .int .u32 (rc : Nat), .int .u32 (ve : Nat), .int .u32 (wa : Nat), .int .u32 (ow : Nat), .slice fo fn fc, .string rs], .int .u32 (place : Nat)] w fun e w' => (rn = 256 ∧ RefP w so sn sc ro rn rcap cl nu 9 e w') ∨ (¬ rn = 256 ∧ ∃ v vb, e = .returned (.tuple #[.agg #[.slice so sn sc, v], .agg #[.int .u32 (cl : Nat), .int .u32 (nu : Nat), .int .u8 0, .int .u32 ((rn : Int) + 1), .int .u32 1, .slice none 0 0, .slice none 0 0]]) ∧ GSt w' (fun k => T k ∨ w.heap.size ≤ k) (.slice so sn sc) v S (L ++ [(⟨wa, ow, false, [], [⟨⟨ac, place, F, false⟩, .slice fo fn fc⟩], .slice none 0 0, .slice (some ⟨vb, 0, none⟩) 1 1⟩ : GC)]) ∧ Fr (fun _ => False) w w') := by
 have o1 : ((op : Int) != 1) = false := by rw [bne_eq_false_iff_eq]; omega
 have o2 : ((op : Int) == 1) = true := by rw [beq_iff_eq]; omega
 have z1 : decide (z < 0) = false := decide_eq_false (by omega)
 have z2 : ¬ z < 0 := by omega
 have j1 : ((jc : Int) != 0) = false := by rw [bne_eq_false_iff_eq]; omega
 have hrn : L.length = rn := by
  obtain ⟨_, _, e⟩ := hst.r.form
  cases e
  rfl
 have HN := hide hn
 have HG0 := hide (And.intro hst (And.intro hF (And.intro hFT (And.intro hone hrn))))
 clear ho hz hj hst hF hFT hone hrn hn
 obtain ⟨W4, hW4, a4⟩ := ab_new w so sn sc ro rn rcap cl nu ac op rc ve wa ow fo fn fc rs
 have A4 := hide a4
 clear a4
 have HRf := hide (fun (co : Nat) W => grefused_any cl nu ac op rc ve wa ow co fo fn fc rs W)
 go_enter Tryz.func12, Tryz.ntmps12
 go_wp2_with fail
 rw [← hW4]
 clear hW4
 refine ((unhide HFo) _ (unhide A4).f).mono ?_
 rintro e w5 ⟨rfl, hf5⟩
 have A5 := hide ((unhide A4).fr hf5)
 clear hf5 A4
 obtain ⟨⟨p0, p1⟩, q0, q1, q2, q3, q4, q5, q6, q7, q8, q9⟩ := (unhide A5).s12
 go_wp2_with fail
 refine ((unhide HFd) _ (unhide A5).f).mono ?_
 rintro e w6 ⟨rfl, hw6⟩
 obtain rfl := hw6.symm
 clear hw6
 clear p0 p1 q0 q1 q2 q3 q4 q5 q6 q7 q8 q9
 obtain ⟨⟨p0, p1⟩, q0, q1, q2, q3, q4, q5, q6, q7, q8, q9⟩ := (unhide A5).s12
 go_wp2_with fail
 refine ((unhide HJd) _ (unhide A5).f).mono ?_
 rintro e w7 ⟨rfl, f7⟩
 have A7 := hide ((unhide A5).fr f7)
 clear f7 A5
 obtain ⟨⟨p0, p1⟩, q0, q1, q2, q3, q4, q5, q6, q7, q8, q9⟩ := (unhide A7).s12
 have l0 := lt_of_block (unhide A7).s
 have l1 := lt_of_block (unhide A7).r
 by_cases hn : rn = 256
 ·have n1 : ((rn : Int) == 256) = true := by rw [beq_iff_eq]; omega
  have HN2 := hide hn
  clear hn
  go_wp2_with fail
  clear p0 p1 q0 q1 q2 q3 q4 q5 q6 q7 q8 q9
  have A8 := hide ((unhide A7).fr (box1 w7 (.cells #[.int .u32 (cl : Nat), .int .u32 (nu : Nat), .int .u8 0, .int .u32 (rc : Nat), .int .u32 0, .slice none 0 0, .slice none 0 0] 45)))
  refine wp_region_noPanic ?_
  have B0 := hide ((unhide A8).fr (Fr.refl _ _).drew)
  refine wp_region_held_drew (S := S12W w so sn sc ro rn rcap cl nu ac op rc ve wa ow fo fn fc rs) (by kernel_rfl) (unhide B0).s12 (fun hHeld => ?_)
  refine wtk (i := 0) (v := ?_) rfl (Or.inl ⟨by rfl, ?_⟩) hHeld ?_
  rotate_left
  ·intro w hSw; dsimp only [S12W] at hSw; go_simp; (try with_reducible rfl)
  (try simp only [Act.put, nrm])
  refine wtk (i := 1) (v := ?_) rfl (Or.inl ⟨by rfl, ?_⟩) hHeld ?_
  rotate_left
  ·intro w hSw; dsimp only [S12W] at hSw; go_simp; (try with_reducible rfl)
  (try simp only [Act.put, nrm])
  refine wpAnyH_ready (rs := [2]) (by kernel_rfl) (by simp) (AllReadyH.cons rfl (fun K hK => ?_) (AllReadyH.nil))
  go_simp
  refine ((unhide HRf) 9 _).mono ?_
  rintro e w1 ⟨rfl, f1⟩
  have B1 := hide ((unhide B0).fr f1)
  clear f1
  go_simp
  refine hK.out _ _ (unhide B1).s12 (fun hHeld => ?_)
  clear hK K
  (try simp only [Act.put, nrm])
  refine wpAnyH_ready (rs := [3]) (by kernel_rfl) (by simp) (AllReadyH.cons rfl (fun K hK => ?_) (AllReadyH.nil))
  obtain ⟨W2, st2, a2, _⟩ := (unhide B1).putA (.slice so sn sc) (.slice ro rn rcap) (fun u hu => by simp at hu; rcases hu with rfl | rfl <;> rfl)
  have H2 := hide st2
  have B2 := hide a2
  clear st2 a2
  refine step_stN rfl 36 (.tmp 6) (.tmp 79) rfl _ _ (by simp [Act.eval]) (by simp [Act.eval]) (unhide H2) ?_
  refine hK.out _ _ (unhide B2).s12 (fun hHeld => ?_)
  clear hK K
  (try simp only [Act.put])
  refine wpAnyH_ready (rs := [4]) (by kernel_rfl) (by simp) (AllReadyH.cons rfl (fun K hK => ?_) (AllReadyH.nil))
  obtain ⟨W3, st3, a3, _⟩ := (unhide B2).putB (.int .u32 (cl : Nat)) (.int .u32 (nu : Nat)) (.int .u8 9) (.int .u32 0) (.int .u32 0) (.slice none 0 0) (.slice none 0 0) (fun u hu => by simp at hu; rcases hu with rfl | rfl | rfl | rfl | rfl | rfl | rfl <;> rfl)
  have H3 := hide st3
  have B3 := hide a3
  clear st3 a3
  refine step_stN rfl 45 (.tmp 7) (.tmp 81) rfl _ _ (by simp [Act.eval]) (by simp [Act.eval]) (unhide H3) ?_
  refine hK.out _ _ (unhide B3).s12 (fun hHeld => ?_)
  clear hK K
  (try simp only [Act.put])
  refine wpAnyH_done (by kernel_rfl) ?_ _
  refine NoPanic.normal ?_
  go_wp2_with fail
  refine bodyPost_ret (results_cells2 rfl _ _ (w.heap.size + 2) (w.heap.size + 3) [.slice so sn sc, .slice ro rn rcap] [.int .u32 (cl : Nat), .int .u32 (nu : Nat), .int .u8 9, .int .u32 0, .int .u32 0, .slice none 0 0, .slice none 0 0] _ _ rfl rfl (unhide B3).range.1 (unhide B3).range.2 Tryz.underlying36 rfl (by kernel_rfl) Tryz.underlying45 rfl (by kernel_rfl)) rfl ?_
  exact .inl ⟨unhide HN2, rfl, (unhide B3).f⟩
 have n1 : ((rn : Int) == 256) = false := by rw [beq_eq_false_iff_ne]; omega
 have n2 : IntKind.i64.wrap ((rn : Int) + 1) = (rn : Int) + 1 := by have := unhide HN; rw [IntKind.wrap_i64]; omega
 have n3 : IntKind.u32.wrap ((rn : Int) + 1) = (rn : Int) + 1 := by have := unhide HN; rw [IntKind.wrap_u32]; omega
 have HN2 := hide hn
 have HG := hide (And.intro (unhide HG0).1 (And.intro (unhide HG0).2.1 (And.intro (unhide HG0).2.2.1 (And.intro (unhide HG0).2.2.2.1 (And.intro (unhide HG0).2.2.2.2 (show rn < 256 by have := unhide HN; omega))))))
 clear hn HRf HG0
 go_wp2_with fail
 clear p0 p1 q0 q1 q2 q3 q4 q5 q6 q7 q8 q9 l0 l1
 obtain ⟨b9, hb9⟩ : ∃ b9, b9 = w7.heap.size := ⟨_, rfl⟩
 obtain ⟨WA, hWA⟩ : ∃ WA, WA = w7.alloc (.cells #[.int .u32 (cl : Nat), .int .u32 (nu : Nat), .int .u8 0, .int .u32 ((rn : Int) + 1), .int .u32 1, .slice none 0 0, .slice none 0 0] 45) := ⟨_, rfl⟩
 have A8 : Hid (AB w WA (.slice so sn sc) (.slice ro rn rcap) #[.int .u32 (cl : Nat), .int .u32 (nu : Nat), .int .u32 (ac : Nat), .int .u8 (op : Nat), .int .u32 (rc : Nat), .int .u32 (ve : Nat), .int .u32 (wa : Nat), .int .u32 (ow : Nat), .slice fo fn fc, .string rs] #[.slice none 0 0, .slice none 0 0] #[.int .u32 0, .int .u32 0, .int .u8 0, .int .u32 0, .int .u32 0, .slice none 0 0, .slice none 0 0] ∧ WA.heap[b9]? = some (.cells #[.int .u32 (cl : Nat), .int .u32 (nu : Nat), .int .u8 0, .int .u32 ((rn : Int) + 1), .int .u32 1, .slice none 0 0, .slice none 0 0] 45)) := ⟨by rw [hWA]; exact (unhide A7).fr (box1 w7 _), by rw [hWA, hb9]; exact Array.getElem?_push_size⟩
 have B9L := hide (show w.heap.size + 4 ≤ b9 by have := lt_of_block (unhide A7).b; omega)
 rw [← hWA, ← hb9]
 clear hWA hb9 A7
 refine wp_region_noPanic ?_
 refine wp_region_held_drew (S := S19W w so sn sc ro rn rcap cl nu ac op rc ve wa ow fo fn fc rs b9 (.int .u32 (cl : Nat)) (.int .u32 (nu : Nat)) (.int .u8 0) (.int .u32 ((rn : Int) + 1)) (.int .u32 1) (.slice none 0 0) (.slice none 0 0)) (by kernel_rfl) (((unhide A8).1.fr (Fr.refl _ _).drew).s19 (unhide A8).2) (fun hHeld => ?_)
 refine wtk (i := 0) (v := ?_) rfl (Or.inl ⟨by rfl, ?_⟩) hHeld ?_
 rotate_left
 ·intro w hSw; dsimp only [S19W, S12W] at hSw; go_simp; (try with_reducible rfl)
 (try simp only [Act.put, nrm])
 refine wtk (i := 1) (v := ?_) rfl (Or.inl ⟨by rfl, ?_⟩) hHeld ?_
 rotate_left
 ·intro w hSw; dsimp only [S19W, S12W] at hSw; go_simp; (try with_reducible rfl)
 (try simp only [Act.put, nrm])
 refine wtk (i := 2) (v := ?_) rfl (Or.inl ⟨by rfl, ?_⟩) hHeld ?_
 rotate_left
 ·intro w hSw; dsimp only [S19W, S12W] at hSw; go_simp; (try with_reducible rfl)
 (try simp only [Act.put, nrm])
 refine wtk (i := 3) (v := ?_) rfl (Or.inl ⟨by rfl, ?_⟩) hHeld ?_
 rotate_left
 ·intro w hSw; dsimp only [S19W, S12W] at hSw; go_simp; (try with_reducible rfl)
 (try simp only [Act.put, nrm])
 refine wtk (i := 4) (v := ?_) rfl (Or.inl ⟨by rfl, ?_⟩) hHeld ?_
 rotate_left
 ·intro w hSw; dsimp only [S19W, S12W] at hSw; go_simp; (try with_reducible rfl)
 (try simp only [Act.put, nrm])
 refine wtk (i := 5) (v := ?_) rfl (Or.inl ⟨by rfl, ?_⟩) hHeld ?_
 rotate_left
 ·intro w hSw; dsimp only [S19W, S12W] at hSw; go_simp; (try with_reducible rfl)
 (try simp only [Act.put, nrm])
 refine wtk (i := 6) (v := ?_) rfl (Or.inl ⟨by rfl, ?_⟩) hHeld ?_
 rotate_left
 ·intro w hSw; dsimp only [S19W, S12W] at hSw; go_simp; (try with_reducible rfl)
 (try simp only [Act.put, nrm])
 refine wtk (i := 7) (v := ?_) rfl (Or.inl ⟨by rfl, ?_⟩) hHeld ?_
 rotate_left
 ·intro w hSw; dsimp only [S19W, S12W] at hSw; go_simp; (try with_reducible rfl)
 (try simp only [Act.put, nrm])
 refine wtk (i := 8) (v := ?_) rfl (Or.inl ⟨by rfl, ?_⟩) hHeld ?_
 rotate_left
 ·intro w hSw; dsimp only [S19W, S12W] at hSw; go_simp; (try with_reducible rfl)
 (try simp only [Act.put, nrm])
 refine wtk (i := 9) (v := ?_) rfl (Or.inl ⟨by rfl, ?_⟩) hHeld ?_
 rotate_left
 ·intro w hSw; dsimp only [S19W, S12W] at hSw; go_simp; (try with_reducible rfl)
 (try simp only [Act.put, nrm])
 refine wtk (i := 10) (v := ?_) rfl (Or.inl ⟨by rfl, ?_⟩) hHeld ?_
 rotate_left
 ·intro w hSw; dsimp only [S19W, S12W] at hSw; go_simp; (try with_reducible rfl)
 (try simp only [Act.put, nrm])
 refine wtk (i := 11) (v := ?_) rfl (Or.inl ⟨by rfl, ?_⟩) hHeld ?_
 rotate_left
 ·intro w hSw; dsimp only [S19W, S12W] at hSw; go_simp; (try with_reducible rfl)
 (try simp only [Act.put, nrm])
 refine wtk (i := 12) (v := ?_) rfl (Or.inl ⟨by rfl, ?_⟩) hHeld ?_
 rotate_left
 ·intro w hSw; dsimp only [S19W, S12W] at hSw; go_simp; (try with_reducible rfl)
 (try simp only [Act.put, nrm])
 refine wtk (i := 13) (v := ?_) rfl (Or.inl ⟨by rfl, ?_⟩) hHeld ?_
 rotate_left
 ·intro w hSw; dsimp only [S19W, S12W] at hSw; go_simp; (try with_reducible rfl)
 (try simp only [Act.put, nrm])
 refine wtk (i := 14) (v := ?_) rfl (Or.inl ⟨by rfl, ?_⟩) hHeld ?_
 rotate_left
 ·intro w hSw; dsimp only [S19W, S12W] at hSw; go_simp; (try with_reducible rfl)
 (try simp only [Act.put, nrm])
 refine wtk (i := 18) (v := ?_) rfl (Or.inl ⟨by rfl, ?_⟩) hHeld ?_
 rotate_left
 ·intro w hSw; dsimp only [S19W, S12W] at hSw; go_simp; (try with_reducible rfl)
 (try simp only [Act.put, nrm])
 refine wpAnyH_ready (rs := [15]) (by kernel_rfl) (by simp) (AllReadyH.cons rfl (fun K hK => ?_) (AllReadyH.nil))
 go_simp
 obtain ⟨vb, hvb⟩ : ∃ vb, vb = WA.heap.size := ⟨_, rfl⟩
 obtain ⟨WB, hWB⟩ : ∃ WB, WB = (WA.alloc (.cells #[.int .u32 (ac : Nat), .int .u32 (place : Nat), .slice fo fn fc, .bool false] 75)).drew := ⟨_, rfl⟩
 rw [← hWB, ← hvb]
 have hfB : Fr (fun _ => False) WA WB := by rw [hWB]; exact (box1 WA _).drew
 have hkB : WB.heap[vb]? = some (.cells #[.int .u32 (ac : Nat), .int .u32 (place : Nat), .slice fo fn fc, .bool false] 75) := by rw [hWB, hvb]; exact Array.getElem?_push_size
 have hvw : w.heap.size + 4 ≤ vb := by rw [hvb]; have := lt_of_block (unhide A8).1.b; omega
 have B1 := hide ((unhide A8).1.fr hfB)
 have K1 := hide ((hfB.block b9 (lt_of_block (unhide A8).2) (fun h => h)).trans (unhide A8).2)
 have KV := hide (And.intro hkB hvw)
 clear hWB hvb hfB hkB hvw
 refine hK.out _ _ ((unhide B1).s19 (unhide K1)) (fun hHeld => ?_)
 clear hK K
 (try simp only [Act.put, nrm])
 refine wtk (i := 16) (v := ?_) rfl (Or.inl ⟨by rfl, ?_⟩) hHeld ?_
 rotate_left
 ·intro w hSw; dsimp only [S19W, S12W] at hSw; go_simp; (try with_reducible rfl)
 (try simp only [Act.put, nrm])
 refine wpAnyH_ready (rs := [17]) (by kernel_rfl) (by simp) (AllReadyH.cons rfl (fun K hK => ?_) (AllReadyH.nil))
 go_simp
 have HP := hide (gput_any so sn sc (.slice ro rn rcap) L rn (⟨wa, ow, false, [], [⟨⟨ac, place, F, false⟩, .slice fo fn fc⟩], .slice none 0 0, .slice (some ⟨vb, 0, none⟩) 1 1⟩ : GC) WB ((unhide HG).1.fr (unhide B1).f).r (unhide HG).2.2.2.1 ⟨rfl, rfl⟩ (by have := (unhide HG).2.2.2.2; omega) (by have := (unhide HG).2.2.2.2.1; omega))
 refine (unhide HP).mono ?_
 rintro e w9 ⟨v, rfl, hov, f9⟩
 rw [show putL L rn (⟨wa, ow, false, [], [⟨⟨ac, place, F, false⟩, .slice fo fn fc⟩], .slice none 0 0, .slice (some ⟨vb, 0, none⟩) 1 1⟩ : GC) = L ++ [(⟨wa, ow, false, [], [⟨⟨ac, place, F, false⟩, .slice fo fn fc⟩], .slice none 0 0, .slice (some ⟨vb, 0, none⟩) 1 1⟩ : GC)] from if_pos (unhide HG).2.2.2.2.1.symm] at hov
 obtain ⟨vo, vc, rfl⟩ := own_formX hov
 have B2 := hide ((unhide B1).fr f9)
 have K2 := hide ((f9.block b9 (lt_of_block (unhide K1)) (fun h => h)).trans (unhide K1))
 have KV2 := hide ((f9.block vb (lt_of_block (unhide KV).1) (fun h => h)).trans (unhide KV).1)
 have HOV := hide hov
 have hzB : w.heap.size + 4 ≤ WB.heap.size := by have := lt_of_block (unhide B1).b; omega
 have HZ := hide hzB
 clear hov f9 HP hzB
 go_simp
 refine hK.out _ _ ((unhide B2).s19 (unhide K2)) (fun hHeld => ?_)
 clear hK K
 (try simp only [Act.put, nrm])
 refine wpAnyH_ready (rs := [19]) (by kernel_rfl) (by simp) (AllReadyH.cons rfl (fun K hK => ?_) (AllReadyH.nil))
 obtain ⟨W10, st10, a10, fa10⟩ := (unhide B2).putA (.slice so sn sc) (.slice vo (L ++ [(⟨wa, ow, false, [], [⟨⟨ac, place, F, false⟩, .slice fo fn fc⟩], .slice none 0 0, .slice (some ⟨vb, 0, none⟩) 1 1⟩ : GC)]).length vc) (fun u hu => by simp at hu; rcases hu with rfl | rfl <;> rfl)
 have H10 := hide st10
 have B3 := hide (And.intro a10 fa10)
 have K3 := hide ((fa10.block b9 (lt_of_block (unhide K2)) (fun e => by have := (unhide B9L); omega)).trans (unhide K2))
 clear st10 a10 fa10
 refine step_stN rfl 36 (.tmp 6) (.tmp 106) rfl _ _ (by simp [Act.eval]) (by simp [Act.eval]) (unhide H10) ?_
 refine hK.out _ _ ((unhide B3).1.s19 (unhide K3)) (fun hHeld => ?_)
 clear hK K
 (try simp only [Act.put])
 refine wpAnyH_ready (rs := [20]) (by kernel_rfl) (by simp) (AllReadyH.cons rfl (fun K hK => ?_) (AllReadyH.nil))
 obtain ⟨W11, st11, a11, fa11⟩ := (unhide B3).1.putB (.int .u32 (cl : Nat)) (.int .u32 (nu : Nat)) (.int .u8 0) (.int .u32 ((rn : Int) + 1)) (.int .u32 1) (.slice none 0 0) (.slice none 0 0) (fun u hu => by simp at hu; rcases hu with rfl | rfl | rfl | rfl | rfl | rfl | rfl <;> rfl)
 have H11 := hide st11
 have B4 := hide (And.intro a11 fa11)
 have K4 := hide ((fa11.block b9 (lt_of_block (unhide K3)) (fun e => by have := (unhide B9L); omega)).trans (unhide K3))
 clear st11 a11 fa11
 refine step_stN rfl 45 (.tmp 7) (.tmp 107) rfl _ _ (by simp [Act.eval]) (by simp [Act.eval]) (unhide H11) ?_
 refine hK.out _ _ ((unhide B4).1.s19 (unhide K4)) (fun hHeld => ?_)
 clear hK K
 (try simp only [Act.put])
 refine wpAnyH_done (by kernel_rfl) ?_ _
 refine NoPanic.normal ?_
 go_wp2_with fail
 refine bodyPost_ret (results_cells2 rfl _ _ (w.heap.size + 2) (w.heap.size + 3) [.slice so sn sc, .slice vo (L ++ [(⟨wa, ow, false, [], [⟨⟨ac, place, F, false⟩, .slice fo fn fc⟩], .slice none 0 0, .slice (some ⟨vb, 0, none⟩) 1 1⟩ : GC)]).length vc] [.int .u32 (cl : Nat), .int .u32 (nu : Nat), .int .u8 0, .int .u32 ((rn : Int) + 1), .int .u32 1, .slice none 0 0, .slice none 0 0] _ _ rfl rfl (unhide B4).1.range.1 (unhide B4).1.range.2 Tryz.underlying36 rfl (by kernel_rfl) Tryz.underlying45 rfl (by kernel_rfl)) rfl ?_
 have hfw := (unhide B4).1.f
 have hown := ownsRow_of_block (ownsRow_of_block (unhide HOV) (fun g hg => (unhide B3).2.block g ((unhide HOV).lt g hg).2 (fun e => by have := ((unhide HOV).lt g hg).1; have := unhide HZ; omega))) (fun g hg => (unhide B4).2.block g (Nat.lt_of_lt_of_le ((unhide HOV).lt g hg).2 (unhide B3).2.size) (fun e => by have := ((unhide HOV).lt g hg).1; have := unhide HZ; omega))
 have hkv := ((unhide B4).2.block vb (Nat.lt_of_lt_of_le (lt_of_block (unhide KV2)) (unhide B3).2.size) (fun e => by have := (unhide KV).2; omega)).trans (((unhide B3).2.block vb (lt_of_block (unhide KV2)) (fun e => by have := (unhide KV).2; omega)).trans (unhide KV2))
 refine .inr ⟨unhide HN2, _, vb, rfl, ⟨(unhide HG).1.s.fr hfw, fun k hk => .inl ((unhide HG).1.sb k hk), own_rd hown, fun k hk => .inr (by have := (own_blkX hown hk).1; have := unhide HZ; omega), fun y hy => ?_⟩, hfw⟩
 rcases List.mem_append.1 hy with hy | hy
 ·exact (((unhide HG).1.c y hy).frS hfw (fun _ h => h.elim)).mono (fun k hk => .inl hk)
 ·rw [List.mem_singleton] at hy
  subst hy
  refine ⟨.inl ⟨none, 0, rfl, rfl⟩, fun k hk => (by obtain ⟨_, _, _, e, _⟩ := hk; cases e), ⟨rfl, .inr ⟨vb, 0, 1, rfl, fun i u hu => ?_⟩⟩, fun k hk => .inr ?_, fun y hy => ?_, fun y hy k hk => ?_⟩
  ·simp only [World.cell?, hkv, Nat.zero_add]
   simpa [vgc, GV.cs] using hu
  ·obtain ⟨_, _, _, e, _⟩ := hk
   cases e
   have := (unhide KV).2
   omega
  ·rw [List.mem_singleton] at hy
   subst hy
   exact (unhide HG).2.1.fr hfw
  ·rw [List.mem_singleton] at hy
   subst hy
   exact .inl ((unhide HG).2.2.1 k hk)
set_option maxRecDepth 100000 in
theorem gffind_any (x : Value) (l : List F5) (n : ByteArray) (w : World) (hx : Fds w x l) (hl : l.length ≤ 140737488355328) :
  Calls Tryz.prog 48 #[x, .string n] w fun e w' => e = .returned (.int .i64 (fix (fidx l n))) ∧ w' = w := by
 have HX := hide hx
 obtain ⟨xo, xc, rfl⟩ := hx.form
 have heq := Tryz.eqlS
 clear hx
 go_enter Tryz.func48, Tryz.ntmps48
 go_wp2_with fail
 go_loopw [5] (fun iv wr => ∃ j : Nat, j ≤ l.length ∧ iv = .int .i64 (j : Nat) ∧ (∀ i (hi : i < l.length), i < j → (l[i].n.toList == n.toList) = false) ∧ wr = w) (fun iv _ => l.length - (intOf iv).toNat)
 case atStart => exact ⟨0, Nat.zero_le _, rfl, fun i _ h => by omega, rfl⟩
 case round =>
  obtain ⟨j, hj, rfl, hno, rfl⟩ := hrel
  have HF := hide hno
  clear hno
  by_cases hlt : j < l.length
  ·obtain ⟨g, o, rfl, c0, _⟩ := (unhide HX).at_ j hlt
   obtain ⟨a, ha⟩ : ∃ a, l[j].n = a := ⟨_, rfl⟩
   rw [ha] at c0
   have HA := hide ha
   clear ha
   have hkl : (j : Int) < (l.length : Int) := by omega
   cases hk : (a.toList == n.toList) with
   | true =>
    have HE := hide (fidx_at hlt (unhide HF) (by rw [unhide HA]; exact hk))
    go_wp2_with fail
    go_ret
    exact ⟨by rw [unhide HE]; rfl, rfl⟩
   | false =>
    have HK := hide hk
    go_wp2_with fail
    go_roundw
    case rel =>
     refine ⟨j + 1, hlt, by go_num, fun i hi h => ?_, trivial⟩
     rcases Nat.lt_or_ge i j with h1 | h1
     ·exact (unhide HF) i hi h1
     ·obtain rfl : i = j := by omega
      rw [unhide HA]; exact unhide HK
    case measure => simp [intOf]; omega
  ·have HE := hide (fidx_no (l := l) (n := n) (fun i hi => (unhide HF) i hi (by omega)))
   have hkl : ¬ (j : Int) < (l.length : Int) := by omega
   go_wp2_with fail
   go_ret
   exact ⟨by rw [unhide HE]; rfl, rfl⟩
set_option maxHeartbeats 2000000 in
set_option maxRecDepth 100000 in
theorem gsameU_any (a b : Nat) (w : World) (ha : a < 256) (hb : b < 256) : Calls Tryz.prog 49 #[.int .u8 (a : Nat), .int .u8 (b : Nat)] w fun e w' => e = .returned (.bool (sameU a b)) ∧ Fr (fun _ => False) w w' := by
 have HA := hide (fun W => gname_any a W ha)
 have HB := hide (fun W => gname_any b W hb)
 have hna := nameU_empty a
 have hnb := nameU_empty b
 cases hua : isU a with
 | false =>
  have HV := hide (show sameU a b = false by unfold sameU; rw [hua]; rfl)
  rw [hua] at hna
  simp only [Bool.not_false] at hna
  clear hnb HB ha hb hua
  go_enter Tryz.func49, Tryz.ntmps49
  go_wp2_with fail
  refine wp_region_noPanic ?_
  refine wp_region_held_drew (S := (fun _ => True)) (by kernel_rfl) trivial (fun hHeld => ?_)
  have F0 := hide ((Fr.refl (fun _ => False) w).drew)
  refine wtk2 (i := 0) rfl hHeld ?_
  (try simp only [Act.put, nrm])
  refine wpAnyH_ready (rs := [1]) (by kernel_rfl) (by simp) (AllReadyH.cons rfl (fun K hK => ?_) (AllReadyH.nil))
  go_simp
  refine ((unhide HA) _).mono ?_
  rintro e w1 ⟨rfl, f1⟩
  have F1 := hide ((unhide F0).trans f1 (fun _ _ h => h))
  clear f1 F0
  go_simp
  refine hK.out _ _ trivial (fun hHeld => ?_)
  clear hK K
  (try simp only [Act.put, nrm])
  refine wtk2 (i := 2) rfl hHeld ?_
  (try simp only [Act.put, nrm])
  refine wtk2 (i := 3) rfl hHeld ?_
  (try simp only [Act.put, nrm])
  refine wpAnyH_take (i := 4) (v := undef) rfl (by kernel_rfl) (by kernel_rfl) (by kernel_rfl) (fun _ _ _ h => h) (Or.inr ⟨by rfl, rfl⟩) hHeld ?_
  (try simp only [Act.put, nrm])
  refine wpAnyH_take (i := 5) (v := undef) rfl (by kernel_rfl) (by kernel_rfl) (by kernel_rfl) (fun _ _ _ h => h) (Or.inr ⟨by rfl, rfl⟩) hHeld ?_
  (try simp only [Act.put, nrm])
  refine wpAnyH_take (i := 6) (v := undef) rfl (by kernel_rfl) (by kernel_rfl) (by kernel_rfl) (fun _ _ _ h => h) (Or.inr ⟨by rfl, rfl⟩) hHeld ?_
  (try simp only [Act.put, nrm])
  refine wtk2 (i := 7) rfl hHeld ?_
  (try simp only [Act.put, nrm])
  refine wtk2 (i := 8) rfl hHeld ?_
  (try simp only [Act.put, nrm])
  refine wpAnyH_take (i := 9) (v := undef) rfl (by kernel_rfl) (by kernel_rfl) (by kernel_rfl) (fun _ _ _ h => h) (Or.inr ⟨by rfl, rfl⟩) hHeld ?_
  (try simp only [Act.put, nrm])
  refine wpAnyH_take (i := 10) (v := undef) rfl (by kernel_rfl) (by kernel_rfl) (by kernel_rfl) (fun _ _ _ h => h) (Or.inr ⟨by rfl, rfl⟩) hHeld ?_
  (try simp only [Act.put, nrm])
  refine wpAnyH_take (i := 11) (v := undef) rfl (by kernel_rfl) (by kernel_rfl) (by kernel_rfl) (fun _ _ _ h => h) (Or.inr ⟨by rfl, rfl⟩) hHeld ?_
  (try simp only [Act.put, nrm])
  refine wpAnyH_take (i := 12) (v := undef) rfl (by kernel_rfl) (by kernel_rfl) (by kernel_rfl) (fun _ _ _ h => h) (Or.inr ⟨by rfl, rfl⟩) hHeld ?_
  (try simp only [Act.put, nrm])
  refine wpAnyH_take (i := 13) (v := undef) rfl (by kernel_rfl) (by kernel_rfl) (by kernel_rfl) (fun _ _ _ h => h) (Or.inr ⟨by rfl, rfl⟩) hHeld ?_
  (try simp only [Act.put, nrm])
  refine wpAnyH_take (i := 14) (v := undef) rfl (by kernel_rfl) (by kernel_rfl) (by kernel_rfl) (fun _ _ _ h => h) (Or.inr ⟨by rfl, rfl⟩) hHeld ?_
  (try simp only [Act.put, nrm])
  refine wpAnyH_take (i := 15) (v := undef) rfl (by kernel_rfl) (by kernel_rfl) (by kernel_rfl) (fun _ _ _ h => h) (Or.inr ⟨by rfl, rfl⟩) hHeld ?_
  (try simp only [Act.put, nrm])
  refine wpAnyH_take (i := 16) (v := undef) rfl (by kernel_rfl) (by kernel_rfl) (by kernel_rfl) (fun _ _ _ h => h) (Or.inr ⟨by rfl, rfl⟩) hHeld ?_
  (try simp only [Act.put, nrm])
  refine wpAnyH_take (i := 17) (v := undef) rfl (by kernel_rfl) (by kernel_rfl) (by kernel_rfl) (fun _ _ _ h => h) (Or.inr ⟨by rfl, rfl⟩) hHeld ?_
  (try simp only [Act.put, nrm])
  refine wpAnyH_take (i := 18) (v := undef) rfl (by kernel_rfl) (by kernel_rfl) (by kernel_rfl) (fun _ _ _ h => h) (Or.inr ⟨by rfl, rfl⟩) hHeld ?_
  (try simp only [Act.put, nrm])
  refine wpAnyH_take (i := 19) (v := undef) rfl (by kernel_rfl) (by kernel_rfl) (by kernel_rfl) (fun _ _ _ h => h) (Or.inr ⟨by rfl, rfl⟩) hHeld ?_
  (try simp only [Act.put, nrm])
  refine wpAnyH_take (i := 20) (v := undef) rfl (by kernel_rfl) (by kernel_rfl) (by kernel_rfl) (fun _ _ _ h => h) (Or.inr ⟨by rfl, rfl⟩) hHeld ?_
  (try simp only [Act.put, nrm])
  refine wpAnyH_take (i := 21) (v := undef) rfl (by kernel_rfl) (by kernel_rfl) (by kernel_rfl) (fun _ _ _ h => h) (Or.inr ⟨by rfl, rfl⟩) hHeld ?_
  (try simp only [Act.put, nrm])
  refine wtk2 (i := 22) rfl hHeld ?_
  (try simp only [Act.put, nrm])
  refine wtk2 (i := 23) rfl hHeld ?_
  (try simp only [Act.put, nrm])
  refine wpAnyH_done (by kernel_rfl) ?_ _
  refine NoPanic.normal ?_
  go_wp2_with fail
  go_ret
  exact ⟨congrArg (fun b => Ending.returned (.bool b)) (unhide HV).symm, unhide F1⟩
 | true =>
  rw [hua] at hna
  simp only [Bool.not_true] at hna
  cases hub : isU b with
  | false =>
   have HV := hide (show sameU a b = false by unfold sameU; rw [hua, hub]; rfl)
   rw [hub] at hnb
   simp only [Bool.not_false] at hnb
   clear ha hb hua hub
   go_enter Tryz.func49, Tryz.ntmps49
   go_wp2_with fail
   refine wp_region_noPanic ?_
   refine wp_region_held_drew (S := (fun _ => True)) (by kernel_rfl) trivial (fun hHeld => ?_)
   have F0 := hide ((Fr.refl (fun _ => False) w).drew)
   refine wtk2 (i := 0) rfl hHeld ?_
   (try simp only [Act.put, nrm])
   refine wpAnyH_ready (rs := [1]) (by kernel_rfl) (by simp) (AllReadyH.cons rfl (fun K hK => ?_) (AllReadyH.nil))
   go_simp
   refine ((unhide HA) _).mono ?_
   rintro e w1 ⟨rfl, f1⟩
   have F1 := hide ((unhide F0).trans f1 (fun _ _ h => h))
   clear f1 F0
   go_simp
   refine hK.out _ _ trivial (fun hHeld => ?_)
   clear hK K
   (try simp only [Act.put, nrm])
   refine wtk2 (i := 2) rfl hHeld ?_
   (try simp only [Act.put, nrm])
   refine wtk2 (i := 3) rfl hHeld ?_
   (try simp only [Act.put, nrm])
   refine wtk2 (i := 4) rfl hHeld ?_
   (try simp only [Act.put, nrm])
   refine wpAnyH_ready (rs := [5]) (by kernel_rfl) (by simp) (AllReadyH.cons rfl (fun K hK => ?_) (AllReadyH.nil))
   go_simp
   refine ((unhide HB) _).mono ?_
   rintro e w2 ⟨rfl, f2⟩
   have F2 := hide ((unhide F1).trans f2 (fun _ _ h => h))
   clear f2 F1
   go_simp
   refine hK.out _ _ trivial (fun hHeld => ?_)
   clear hK K
   (try simp only [Act.put, nrm])
   refine wtk2 (i := 6) rfl hHeld ?_
   (try simp only [Act.put, nrm])
   refine wtk2 (i := 7) rfl hHeld ?_
   (try simp only [Act.put, nrm])
   refine wtk2 (i := 8) rfl hHeld ?_
   (try simp only [Act.put, nrm])
   refine wpAnyH_take (i := 9) (v := undef) rfl (by kernel_rfl) (by kernel_rfl) (by kernel_rfl) (fun _ _ _ h => h) (Or.inr ⟨by rfl, rfl⟩) hHeld ?_
   (try simp only [Act.put, nrm])
   refine wpAnyH_take (i := 10) (v := undef) rfl (by kernel_rfl) (by kernel_rfl) (by kernel_rfl) (fun _ _ _ h => h) (Or.inr ⟨by rfl, rfl⟩) hHeld ?_
   (try simp only [Act.put, nrm])
   refine wpAnyH_take (i := 11) (v := undef) rfl (by kernel_rfl) (by kernel_rfl) (by kernel_rfl) (fun _ _ _ h => h) (Or.inr ⟨by rfl, rfl⟩) hHeld ?_
   (try simp only [Act.put, nrm])
   refine wpAnyH_take (i := 12) (v := undef) rfl (by kernel_rfl) (by kernel_rfl) (by kernel_rfl) (fun _ _ _ h => h) (Or.inr ⟨by rfl, rfl⟩) hHeld ?_
   (try simp only [Act.put, nrm])
   refine wpAnyH_take (i := 13) (v := undef) rfl (by kernel_rfl) (by kernel_rfl) (by kernel_rfl) (fun _ _ _ h => h) (Or.inr ⟨by rfl, rfl⟩) hHeld ?_
   (try simp only [Act.put, nrm])
   refine wpAnyH_take (i := 14) (v := undef) rfl (by kernel_rfl) (by kernel_rfl) (by kernel_rfl) (fun _ _ _ h => h) (Or.inr ⟨by rfl, rfl⟩) hHeld ?_
   (try simp only [Act.put, nrm])
   refine wpAnyH_take (i := 15) (v := undef) rfl (by kernel_rfl) (by kernel_rfl) (by kernel_rfl) (fun _ _ _ h => h) (Or.inr ⟨by rfl, rfl⟩) hHeld ?_
   (try simp only [Act.put, nrm])
   refine wpAnyH_take (i := 16) (v := undef) rfl (by kernel_rfl) (by kernel_rfl) (by kernel_rfl) (fun _ _ _ h => h) (Or.inr ⟨by rfl, rfl⟩) hHeld ?_
   (try simp only [Act.put, nrm])
   refine wpAnyH_take (i := 17) (v := undef) rfl (by kernel_rfl) (by kernel_rfl) (by kernel_rfl) (fun _ _ _ h => h) (Or.inr ⟨by rfl, rfl⟩) hHeld ?_
   (try simp only [Act.put, nrm])
   refine wpAnyH_take (i := 18) (v := undef) rfl (by kernel_rfl) (by kernel_rfl) (by kernel_rfl) (fun _ _ _ h => h) (Or.inr ⟨by rfl, rfl⟩) hHeld ?_
   (try simp only [Act.put, nrm])
   refine wpAnyH_take (i := 19) (v := undef) rfl (by kernel_rfl) (by kernel_rfl) (by kernel_rfl) (fun _ _ _ h => h) (Or.inr ⟨by rfl, rfl⟩) hHeld ?_
   (try simp only [Act.put, nrm])
   refine wpAnyH_take (i := 20) (v := undef) rfl (by kernel_rfl) (by kernel_rfl) (by kernel_rfl) (fun _ _ _ h => h) (Or.inr ⟨by rfl, rfl⟩) hHeld ?_
   (try simp only [Act.put, nrm])
   refine wpAnyH_take (i := 21) (v := undef) rfl (by kernel_rfl) (by kernel_rfl) (by kernel_rfl) (fun _ _ _ h => h) (Or.inr ⟨by rfl, rfl⟩) hHeld ?_
   (try simp only [Act.put, nrm])
   refine wtk2 (i := 22) rfl hHeld ?_
   (try simp only [Act.put, nrm])
   refine wtk2 (i := 23) rfl hHeld ?_
   (try simp only [Act.put, nrm])
   refine wpAnyH_done (by kernel_rfl) ?_ _
   refine NoPanic.normal ?_
   go_wp2_with fail
   go_ret
   exact ⟨congrArg (fun b => Ending.returned (.bool b)) (unhide HV).symm, unhide F2⟩
  | true =>
   rw [hub] at hnb
   simp only [Bool.not_true] at hnb
   obtain ⟨k, rfl⟩ : ∃ k, a = k + 1 := ⟨a - 1, by simp [isU] at hua; omega⟩
   obtain ⟨m, rfl⟩ : ∃ m, b = m + 1 := ⟨b - 1, by simp [isU] at hub; omega⟩
   have hk : k < 21 := by simp [isU] at hua; omega
   have hm : m < 21 := by simp [isU] at hub; omega
   obtain ⟨p, hp⟩ : ∃ p, measL.getD (k + 1) 0 = p := ⟨_, rfl⟩
   obtain ⟨q, hq⟩ : ∃ q, measL.getD (m + 1) 0 = q := ⟨_, rfl⟩
   have HV := hide (show sameU (k + 1) (m + 1) = ((p : Int) == (q : Int)) by unfold sameU; rw [hua, hub, hp, hq]; rfl)
   have HL1 := hide hp
   have HL2 := hide hq
   have a3 : IntKind.u8.wrap (k : Int) = (k : Int) := by rw [IntKind.wrap_u8]; omega
   have b3 : IntKind.u8.wrap (m : Int) = (m : Int) := by rw [IntKind.wrap_u8]; omega
   have a4 : (k : Int) < 21 := by omega
   have b4 : (m : Int) < 21 := by omega
   clear ha hb hua hub hp hq
   go_enter Tryz.func49, Tryz.ntmps49
   go_wp2_with fail
   refine wp_region_noPanic ?_
   refine wp_region_held_drew (S := (fun _ => True)) (by kernel_rfl) trivial (fun hHeld => ?_)
   have F0 := hide ((Fr.refl (fun _ => False) w).drew)
   refine wtk2 (i := 0) rfl hHeld ?_
   (try simp only [Act.put, nrm])
   refine wpAnyH_ready (rs := [1]) (by kernel_rfl) (by simp) (AllReadyH.cons rfl (fun K hK => ?_) (AllReadyH.nil))
   go_simp
   refine ((unhide HA) _).mono ?_
   rintro e w1 ⟨rfl, f1⟩
   have F1 := hide ((unhide F0).trans f1 (fun _ _ h => h))
   clear f1 F0
   go_simp
   refine hK.out _ _ trivial (fun hHeld => ?_)
   clear hK K
   (try simp only [Act.put, nrm])
   refine wtk2 (i := 2) rfl hHeld ?_
   (try simp only [Act.put, nrm])
   refine wtk2 (i := 3) rfl hHeld ?_
   (try simp only [Act.put, nrm])
   refine wtk2 (i := 4) rfl hHeld ?_
   (try simp only [Act.put, nrm])
   refine wpAnyH_ready (rs := [5]) (by kernel_rfl) (by simp) (AllReadyH.cons rfl (fun K hK => ?_) (AllReadyH.nil))
   go_simp
   refine ((unhide HB) _).mono ?_
   rintro e w2 ⟨rfl, f2⟩
   have F2 := hide ((unhide F1).trans f2 (fun _ _ h => h))
   clear f2 F1
   go_simp
   refine hK.out _ _ trivial (fun hHeld => ?_)
   clear hK K
   (try simp only [Act.put, nrm])
   refine wtk2 (i := 6) rfl hHeld ?_
   (try simp only [Act.put, nrm])
   refine wtk2 (i := 7) rfl hHeld ?_
   (try simp only [Act.put, nrm])
   refine wtk2 (i := 8) rfl hHeld ?_
   (try simp only [Act.put, nrm])
   refine wtk2 (i := 10) rfl hHeld ?_
   (try simp only [Act.put, nrm])
   refine wtk2 (i := 11) rfl hHeld ?_
   (try simp only [Act.put, nrm])
   refine wtk2 (i := 16) rfl hHeld ?_
   (try simp only [Act.put, nrm])
   refine wtk2 (i := 17) rfl hHeld ?_
   (try simp only [Act.put, nrm])
   refine wpAnyH_ready (rs := [9]) (by kernel_rfl) (by simp) (AllReadyH.cons rfl (fun K hK => ?_) (AllReadyH.nil))
   go_simp
   refine (gunits_any _).mono ?_
   rintro e w3 ⟨rfl, hw3⟩
   have f3 : Fr (fun _ => False) w2 w3 := by rw [hw3]; exact box1 _ _
   have k3 : w3.heap[w2.heap.size]? = some (.cells unitC 116) := by rw [hw3]; exact Array.getElem?_push_size
   have F3 := hide ((unhide F2).trans f3 (fun _ _ h => h))
   have K3 := hide k3
   obtain ⟨u1, hu1⟩ : ∃ u1, u1 = w2.heap.size := ⟨_, rfl⟩
   rw [← hu1] at K3 ⊢
   clear f3 k3 hw3 F2 hu1
   go_simp
   refine hK.out _ _ trivial (fun hHeld => ?_)
   clear hK K
   (try simp only [Act.put, nrm])
   refine wtk2 (i := 12) rfl hHeld ?_
   (try simp only [Act.put, nrm])
   refine wtk2 (i := 13) rfl hHeld ?_
   (try simp only [Act.put, nrm])
   refine wpAnyH_ready (rs := [14, 15]) (by kernel_rfl) (by simp) (AllReadyH.cons rfl (fun K hK => ?_) (AllReadyH.cons rfl (fun K hK => ?_) (AllReadyH.nil)))
   focus
    obtain ⟨_, c3⟩ := unit_at (unhide K3) k hk
    rw [unhide HL1] at c3
    go_simp
    refine hK.out _ _ trivial (fun hHeld => ?_)
    clear hK K
    (try simp only [Act.put, nrm])
    refine wpAnyH_ready (rs := [15]) (by kernel_rfl) (by simp) (AllReadyH.cons rfl (fun K hK => ?_) (AllReadyH.nil))
    go_simp
    refine (gunits_any _).mono ?_
    rintro e w4 ⟨rfl, hw4⟩
    have f4 : Fr (fun _ => False) w3 w4 := by rw [hw4]; exact box1 _ _
    have k4 : w4.heap[w3.heap.size]? = some (.cells unitC 116) := by rw [hw4]; exact Array.getElem?_push_size
    have F4 := hide ((unhide F3).trans f4 (fun _ _ h => h))
    have K4 := hide k4
    obtain ⟨u2, hu2⟩ : ∃ u2, u2 = w3.heap.size := ⟨_, rfl⟩
    rw [← hu2] at K4 ⊢
    clear f4 k4 hw4 F3 hu2 c3
    go_simp
    refine hK.out _ _ trivial (fun hHeld => ?_)
    clear hK K
    (try simp only [Act.put, nrm])
    refine wtk2 (i := 18) rfl hHeld ?_
    (try simp only [Act.put, nrm])
    refine wtk2 (i := 19) rfl hHeld ?_
    (try simp only [Act.put, nrm])
    refine wpAnyH_ready (rs := [20]) (by kernel_rfl) (by simp) (AllReadyH.cons rfl (fun K hK => ?_) (AllReadyH.nil))
    obtain ⟨_, c4⟩ := unit_at (unhide K4) m hm
    rw [unhide HL2] at c4
    go_simp
    refine hK.out _ _ trivial (fun hHeld => ?_)
    clear hK K
    (try simp only [Act.put, nrm])
    refine wtk2 (i := 21) rfl hHeld ?_
    (try simp only [Act.put, nrm])
    refine wtk2 (i := 22) rfl hHeld ?_
    (try simp only [Act.put, nrm])
    refine wtk2 (i := 23) rfl hHeld ?_
    (try simp only [Act.put, nrm])
    refine wpAnyH_done (by kernel_rfl) ?_ _
    refine NoPanic.normal ?_
    go_wp2_with fail
    go_ret
    exact ⟨congrArg (fun b => Ending.returned (.bool b)) (unhide HV).symm, unhide F4⟩
   focus
    go_simp
    refine (gunits_any _).mono ?_
    rintro e w4 ⟨rfl, hw4⟩
    have f4 : Fr (fun _ => False) w3 w4 := by rw [hw4]; exact box1 _ _
    have k4 : w4.heap[w3.heap.size]? = some (.cells unitC 116) := by rw [hw4]; exact Array.getElem?_push_size
    have F4 := hide ((unhide F3).trans f4 (fun _ _ h => h))
    have K4 := hide k4
    have K5 := hide ((f4.block u1 (lt_of_block (unhide K3)) (fun h => h)).trans (unhide K3))
    obtain ⟨u2, hu2⟩ : ∃ u2, u2 = w3.heap.size := ⟨_, rfl⟩
    rw [← hu2] at K4 ⊢
    clear f4 k4 hw4 F3 hu2
    go_simp
    refine hK.out _ _ trivial (fun hHeld => ?_)
    clear hK K
    (try simp only [Act.put, nrm])
    refine wtk2 (i := 18) rfl hHeld ?_
    (try simp only [Act.put, nrm])
    refine wtk2 (i := 19) rfl hHeld ?_
    (try simp only [Act.put, nrm])
    refine wpAnyH_ready (rs := [14, 20]) (by kernel_rfl) (by simp) (AllReadyH.cons rfl (fun K hK => ?_) (AllReadyH.cons rfl (fun K hK => ?_) (AllReadyH.nil)))
    focus
     obtain ⟨_, c3⟩ := unit_at (unhide K5) k hk
     rw [unhide HL1] at c3
     go_simp
     refine hK.out _ _ trivial (fun hHeld => ?_)
     clear hK K
     (try simp only [Act.put, nrm])
     refine wpAnyH_ready (rs := [20]) (by kernel_rfl) (by simp) (AllReadyH.cons rfl (fun K hK => ?_) (AllReadyH.nil))
     obtain ⟨_, c4⟩ := unit_at (unhide K4) m hm
     rw [unhide HL2] at c4
     go_simp
     refine hK.out _ _ trivial (fun hHeld => ?_)
     clear hK K
     (try simp only [Act.put, nrm])
     refine wtk2 (i := 21) rfl hHeld ?_
     (try simp only [Act.put, nrm])
     refine wtk2 (i := 22) rfl hHeld ?_
     (try simp only [Act.put, nrm])
     refine wtk2 (i := 23) rfl hHeld ?_
     (try simp only [Act.put, nrm])
     refine wpAnyH_done (by kernel_rfl) ?_ _
     refine NoPanic.normal ?_
     go_wp2_with fail
     go_ret
     exact ⟨congrArg (fun b => Ending.returned (.bool b)) (unhide HV).symm, unhide F4⟩
    focus
     obtain ⟨_, c4⟩ := unit_at (unhide K4) m hm
     rw [unhide HL2] at c4
     go_simp
     refine hK.out _ _ trivial (fun hHeld => ?_)
     clear hK K
     (try simp only [Act.put, nrm])
     refine wpAnyH_ready (rs := [14]) (by kernel_rfl) (by simp) (AllReadyH.cons rfl (fun K hK => ?_) (AllReadyH.nil))
     obtain ⟨_, c3⟩ := unit_at (unhide K5) k hk
     rw [unhide HL1] at c3
     go_simp
     refine hK.out _ _ trivial (fun hHeld => ?_)
     clear hK K
     (try simp only [Act.put, nrm])
     refine wtk2 (i := 21) rfl hHeld ?_
     (try simp only [Act.put, nrm])
     refine wtk2 (i := 22) rfl hHeld ?_
     (try simp only [Act.put, nrm])
     refine wtk2 (i := 23) rfl hHeld ?_
     (try simp only [Act.put, nrm])
     refine wpAnyH_done (by kernel_rfl) ?_ _
     refine NoPanic.normal ?_
     go_wp2_with fail
     go_ret
     exact ⟨congrArg (fun b => Ending.returned (.bool b)) (unhide HV).symm, unhide F4⟩
end Go.Proofs.YtiknjghcjaaenaaGreatDoor
