import Derived.Test.YtfoifojlgojgaabDoorWlb
import Derived.Test.YtfoifojlgojgaabDoorWlf
import Derived.ScopeJumps
import Derived.WalkMore
import Derived.Test.YtfoifojlgojgaabDoorDlp
import Derived.Test.YtfoifojlgojgaabDoorDlj
namespace Go.Proofs.YtfoifojlgojgaabDoor
open Go.RowKit Go.ChangeShapes Go.WideShapes Go.Maps Go.Sort

theorem Tryd.infoInt : (Tryd.prog.info? 3).map (fun i => (i.zero, i.size, i.bytes)) = some (some (.int .i64 0), 1, 8) := by kernel_rfl
theorem Tryd.infoSpan : (Tryd.prog.info? 54).map (fun i => (i.zero, i.size, i.bytes)) = some (some (.agg #[.int .i64 0, .int .i64 0, .int .i64 0]), 3, 24) := by kernel_rfl
/-- append(segments, n). -/
theorem app_int (w : World) (v : Value) (l : List Nat) (n : Nat) (h : w.ownsRow 0 3 1 v l.length (icells l)) (hl : l.length ≤ 1000000) :
    ∃ ao cap w', (Builtin.append_ #[36, 36] 36 #[v, .slice (some ⟨w.heap.size, 0, none⟩) 1 1]).run Tryd.prog (w.alloc (.cells #[.int .i64 (n : Nat)] 3)) = .ok (.slice ao (l.length + 1) cap) w' ∧ w'.ownsRow 0 3 1 (.slice ao (l.length + 1) cap) (l.length + 1) (icells (l ++ [n])) ∧ Fr (fun g => v.ownBlock = some g) w w' ∧
      ∀ g, (Value.slice ao (l.length + 1) cap).ownBlock = some g → v.ownBlock = some g ∨ w.heap.size ≤ g := by
  obtain ⟨i0, hi, hz0, hz1, hz2⟩ := info_parts Tryd.infoInt
  have hb := ownsRow_of_block (w' := w.alloc (.cells #[.int .i64 (n : Nat)] 3)) h (fun g hg => Below.heap_alloc _ _ _ (h.lt g hg).2)
  obtain ⟨v', w', hr, h2, h3, _, h5⟩ := run_append_own_at (P := Tryd.prog) (w := w.alloc (.cells #[.int .i64 (n : Nat)] 3)) 0 36 36 3 i0 (.int .i64 0) 1 8 Tryd.underlying36 hi hz0 hz1 hz2 rfl (by decide) v l.length (icells l) hb ⟨w.heap.size, 0, none⟩ 1 1 [.int .i64 (n : Nat)] rfl (fun j u hu => by
    rw [addr_add, World.cell?_alloc_at _ _ _ _ rfl]; simpa using hu) (fun u hu => by simp at hu; subst hu; rfl) (by simp only [maxLen]; omega) (by omega) (Nat.zero_le _)
  obtain ⟨ao, cap, rfl⟩ := own_formX h2
  refine ⟨ao, cap, w', hr, by simpa [icells] using h2, ((box1 w _).mono (fun _ _ h => h.elim)).grown h3 (fun g hg => .inl hg), fun g hg => ?_⟩
  rcases h5 with e | e
  · rw [e] at hg; exact .inl hg
  · rw [e] at hg; cases hg; exact .inr (by simp)
/-- append(payloads, span{a, b, c}). -/
theorem app_span (w : World) (v : Value) (l : List (Nat × Nat × Nat)) (a b c : Nat) (h : w.ownsRow 0 54 3 v l.length (scells l)) (hl : l.length ≤ 1000000) :
    ∃ ao cap w', (Builtin.append_ #[44, 44] 44 #[v, .slice (some ⟨w.heap.size, 0, none⟩) 1 1]).run Tryd.prog (w.alloc (.cells #[.int .i64 (a : Nat), .int .i64 (b : Nat), .int .i64 (c : Nat)] 54)) = .ok (.slice ao (l.length + 1) cap) w' ∧ w'.ownsRow 0 54 3 (.slice ao (l.length + 1) cap) (l.length + 1) (scells (l ++ [(a, b, c)])) ∧ Fr (fun g => v.ownBlock = some g) w w' ∧
      ∀ g, (Value.slice ao (l.length + 1) cap).ownBlock = some g → v.ownBlock = some g ∨ w.heap.size ≤ g := by
  obtain ⟨i0, hi, hz0, hz1, hz2⟩ := info_parts Tryd.infoSpan
  have hb := ownsRow_of_block (w' := w.alloc (.cells #[.int .i64 (a : Nat), .int .i64 (b : Nat), .int .i64 (c : Nat)] 54)) h (fun g hg => Below.heap_alloc _ _ _ (h.lt g hg).2)
  obtain ⟨v', w', hr, h2, h3, _, h5⟩ := run_append_own_at (P := Tryd.prog) (w := w.alloc (.cells #[.int .i64 (a : Nat), .int .i64 (b : Nat), .int .i64 (c : Nat)] 54)) 0 44 44 54 i0 (.agg #[.int .i64 0, .int .i64 0, .int .i64 0]) 3 24 Tryd.underlying44 hi hz0 hz1 hz2 rfl (by decide) v l.length (scells l) hb ⟨w.heap.size, 0, none⟩ 1 1 [.int .i64 (a : Nat), .int .i64 (b : Nat), .int .i64 (c : Nat)] rfl (fun j u hu => by
    rw [addr_add, World.cell?_alloc_at _ _ _ _ rfl]; simpa using hu) (fun u hu => by simp at hu; rcases hu with rfl | rfl | rfl <;> rfl) (by simp only [maxLen]; omega) (by omega) (Nat.zero_le _)
  obtain ⟨ao, cap, rfl⟩ := own_formX h2
  refine ⟨ao, cap, w', hr, by rw [scells_app]; exact h2, ((box1 w _).mono (fun _ _ h => h.elim)).grown h3 (fun g hg => .inl hg), fun g hg => ?_⟩
  rcases h5 with e | e
  · rw [e] at hg; exact .inl hg
  · rw [e] at hg; cases hg; exact .inr (by simp)
theorem seg_size (name : ByteArray) (i : Nat) (hi : i < 100) : 1 ≤ (seg name i).size ∧ (seg name i).size ≤ name.size + 3 := by
  have hdl : (Lib.decDigits i).length ≤ 2 ∧ 1 ≤ (Lib.decDigits i).length := by
    by_cases h : i < 10
    · rw [Lib.decDigits_one h]; exact ⟨Nat.le_succ 1, Nat.le_refl 1⟩
    · rw [Lib.decDigits_two h hi]; exact ⟨Nat.le_refl 2, Nat.le_succ 1⟩
  have e : (seg name i).size = name.size + 1 + (Lib.decDigits i).length := by
    rw [seg, ByteArray.size_append, ByteArray.size_append, show (ByteArray.mk #[46]).size = 1 from rfl]
    rfl
  omega
/-- A new segment is counted in. -/
theorem LgAt.addSeg {w2 w3 : World} {l d : Nat} {L : LM} {sv pv : Value} {ao : Option Addr} {cap n : Nat} (h : LgAt w2 l d L sv pv) (hown : w3.ownsRow 0 3 1 (.slice ao (L.segs.length + 1) cap) (L.segs.length + 1) (icells (L.segs ++ [n]))) (hf : Fr (fun g => sv.ownBlock = some g) w2 w3) (hb : ∀ g, (Value.slice ao (L.segs.length + 1) cap).ownBlock = some g → sv.ownBlock = some g ∨ w2.heap.size ≤ g) :
    LgAt (w3.setCell ⟨l, 3, none⟩ (.slice ao (L.segs.length + 1) cap)) l d { L with segs := L.segs ++ [n] } (.slice ao (L.segs.length + 1) cap) pv ∧ Fr (fun g => g = l ∨ sv.ownBlock = some g ∨ pv.ownBlock = some g) w2 (w3.setCell ⟨l, 3, none⟩ (.slice ao (L.segs.length + 1) cap)) := by
  have hl3 : w3.heap[l]? = w2.heap[l]? := hf.block l h.lt.1 (fun e => (h.kinds.1 l e).1 rfl)
  have hne : ∀ g, (Value.slice ao (L.segs.length + 1) cap).ownBlock = some g → g ≠ l := fun g hg e => by
    rcases hb g hg with e2 | e2
    · exact (h.kinds.1 g e2).1 e
    · have := h.lt.1; omega
  refine ⟨⟨?_, ?_, ?_⟩, ?_⟩
  · rw [blkset (hl3.trans h.blk)]
    simp
  · have hlen : (L.segs ++ [n]).length = L.segs.length + 1 := by simp
    show World.ownsRow _ 0 3 1 _ (L.segs ++ [n]).length _
    rw [hlen]
    exact ownsRow_of_block hown (fun g hg => Below.heap_setCell _ _ _ _ (hne g hg))
  · refine ownsRow_of_block h.po (fun g hg => ?_)
    rw [Below.heap_setCell _ _ _ _ (h.kinds.2 g hg)]
    exact hf.block g (h.lt.2.2 g hg) (fun e => (h.kinds.1 g e).2 hg)
  · exact (hf.mono (fun g _ e => .inr (.inl e))).setCell (.inl (.inl rfl)) _
set_option maxHeartbeats 1000000 in
set_option maxRecDepth 100000 in
/-- Log.begin, where there is no such file yet. -/
theorem begin_ok (w : World) (l d m : Nat) (L : LM) (s : DM) (q : DW) (O : Nat → Prop) (sv pv : Value) (W : World) (h : WL w W l d m L s q O sv pv) (ho : s.off = false) (hn : L.name.size ≤ 32) (hl : L.segs.length < 100) (hh : Maps.has s.D (.string (nm (seg L.name L.segs.length))) = false) (hs : Maps.size s.D < 256) :
    Calls Tryd.prog 29 #[.pointer (some ⟨l, 0, none⟩)] W fun e W' => e = .returned (.int .i64 0) ∧ ∃ fb q' O' sv', WL w W' l d m { L with segs := L.segs ++ [0] } (s.made (nm (seg L.name L.segs.length)) fb) q' O' sv' pv := by
  obtain ⟨c0, c1, c2, c3, c4, fz⟩ := h.G.cells
  obtain ⟨so, sc, rfl⟩ := own_formX h.G.so
  have hsz := seg_size L.name L.segs.length hl
  have HFI : Hid (∀ W', Fr (fun _ => False) W W' → Calls Tryd.prog 18 #[.pointer (some ⟨l, 0, none⟩), .int .i64 (L.segs.length : Nat)] W' fun e W2 => e = .returned (.string (seg L.name L.segs.length)) ∧ Fr (fun _ => False) W W2) := fun W' hf =>
    (file_any l L.segs.length L.name W' hl (h.quiet hf).G.cells.2.1 (by omega)).mono (fun e W2 h => ⟨h.1, hf.trans h.2 (fun _ _ h => h)⟩)
  have HC : Hid (∀ W', Fr (fun _ => False) W W' → Calls Tryd.prog 41 #[.pointer (some ⟨d, 0, none⟩), .string (seg L.name L.segs.length)] W' fun e W2 => e = .returned (.int .i64 0) ∧ ∃ fb q' O', WL w W2 l d m L (s.made (nm (seg L.name L.segs.length)) fb) q' O' (.slice so L.segs.length sc) pv) := fun W' hf => by
    have h1 := h.quiet hf
    refine (create_ok d m s q O (seg L.name L.segs.length) W' h1.D ho hsz.1 (by omega) hh hs).mono ?_
    rintro e W2 ⟨rfl, fb, q', O', hD, hf2, hO⟩
    exact ⟨rfl, fb, q', O', h1.disk hD hf2 hO⟩
  have HK : Hid (∀ W', Fr (fun _ => False) W W' → W'.cell? ⟨l, 0, none⟩ = some (.pointer (some ⟨d, 0, none⟩)) ∧ W'.cell? ⟨l, 3, none⟩ = some (.slice so L.segs.length sc)) := fun W' hf => ⟨(h.quiet hf).G.cells.1, (h.quiet hf).G.cells.2.2.2.1⟩
  have HL := hide hl
  clear h hsz ho hn hh hs c1 c2 c4 fz hl
  obtain ⟨SN, hSN⟩ : ∃ SN, SN = seg L.name L.segs.length := ⟨_, rfl⟩
  rw [← hSN] at HFI HC ⊢
  clear hSN
  obtain ⟨N, hN⟩ : ∃ N, N = L.segs.length := ⟨_, rfl⟩
  rw [← hN] at HFI HC HK HL c3
  have HN := hide hN
  clear hN
  go_enter Tryd.func29, Tryd.ntmps29
  go_wp2_with fail
  go_region_held3 (fun w' => w'.cell? ⟨l, 0, none⟩ = some (.pointer (some ⟨d, 0, none⟩)) ∧ w'.cell? ⟨l, 3, none⟩ = some (.slice so N sc))
    (first | exact (unhide HK) _ (Fr.refl _ _).drew | exact (unhide HK) _ hf1 | exact ⟨(unhide HW).G.cells.1, (unhide HW).G.cells.2.2.2.1⟩)
    (first
      | (go_at_call 18; refine ((unhide HFI) _ (Fr.refl _ _).drew).mono ?_; rintro e w1 ⟨rfl, hf1⟩; clear HFI)
      | (go_at_call 41; refine ((unhide HC) _ hf1).mono ?_; rintro e w2 ⟨rfl, fb, q2, O2, hW⟩; clear HC; have HW := hide hW; clear hW))
  all_goals
    obtain ⟨c0', c1', c2', c3', c4', fz'⟩ := (unhide HW).G.cells
    have f3' := fz' 3
    obtain ⟨ao, cap, w3, hr3, hown3, hf3, hb3⟩ := app_int w2 _ L.segs 0 (unhide HW).G.so (by have := unhide HL; have := unhide HN; omega)
    obtain ⟨hG3, hF3⟩ := (unhide HW).G.addSeg hown3 hf3 hb3
    have hl3 : w3.frozen? ⟨l, 3, none⟩ = false := by
      have h0 : w3.heap[l]? = w2.heap[l]? := hf3.block l (unhide HW).G.lt.1 (fun e => ((unhide HW).G.kinds.1 l e).1 rfl)
      simp [World.frozen?, h0, (unhide HW).G.blk]
    have hl3c : w3.cell? ⟨l, 3, none⟩ = some (.slice so N sc) := by
      have h0 : w3.heap[l]? = w2.heap[l]? := hf3.block l (unhide HW).G.lt.1 (fun e => ((unhide HW).G.kinds.1 l e).1 rfl)
      rw [← c3']
      simp only [World.cell?, h0]
    have hW3 := (unhide HW).log hG3 hF3 hb3 (fun g hg => .inl hg)
    rw [← unhide HN] at hr3 hW3
    have HR3 := hide hr3
    have H3 := hide hW3
    clear hr3 hown3 hf3 hb3 hG3 hF3 hW3 c0' c1' c2' c4' fz'
    go_wp2_with (at_builtin; refine wpList_app rfl _ _ 36 36 rfl _ _ _ rfl rfl (unhide HR3) ?_; clear HR3)
    go_ret
    exact ⟨rfl, fb, q2, O2, _, unhide H3⟩
end Go.Proofs.YtfoifojlgojgaabDoor

namespace Go.Proofs.YtfoifojlgojgaabDoor
open Go.RowKit Go.ChangeShapes Go.WideShapes Go.Maps Go.Sort

theorem icells_at (ss : List Nat) (x : Nat) : (icells (ss ++ [x]))[ss.length]? = some (.int .i64 (x : Nat)) := by
  simp [icells]
theorem LgAt.last {w : World} {l d : Nat} {L : LM} {sv pv : Value} {ss : List Nat} {x : Nat} (h : LgAt w l d L sv pv) (hs : L.segs = ss ++ [x]) : ∃ g c, sv = .slice (some ⟨g, 0, none⟩) (ss.length + 1) c ∧ ss.length + 1 ≤ c ∧ w.cell? ⟨g, ss.length, none⟩ = some (.int .i64 (x : Nat)) ∧ w.frozen? ⟨g, ss.length, none⟩ = false := by
  have hso := h.so
  have hlen : L.segs.length = ss.length + 1 := by rw [hs]; simp
  rw [hlen] at hso
  rcases hso.2 with ⟨e1, e2⟩ | ⟨g, c, cur, e1, _, e3, e4, _⟩
  · omega
  · subst e1
    refine ⟨g, c, rfl, e4, ?_, by simp [World.frozen?, e3]⟩
    rw [hso.cellAt ss.length (by omega), hs]
    exact icells_at ss x
/-- A frame is counted in. -/
theorem LgAt.noted {w2 w3 : World} {l d g sc : Nat} {L : LM} {pv : Value} {ao : Option Addr} {cap x y a b c : Nat} {ss : List Nat} (h : LgAt w2 l d L (.slice (some ⟨g, 0, none⟩) (ss.length + 1) sc) pv) (hs : L.segs = ss ++ [x]) (hown : w3.ownsRow 0 54 3 (.slice ao (L.pls.length + 1) cap) (L.pls.length + 1) (scells (L.pls ++ [(a, b, c)]))) (hf : Fr (fun g => pv.ownBlock = some g) w2 w3) (hb : ∀ g, (Value.slice ao (L.pls.length + 1) cap).ownBlock = some g → pv.ownBlock = some g ∨ w2.heap.size ≤ g) :
    LgAt ((w3.setCell ⟨l, 4, none⟩ (.slice ao (L.pls.length + 1) cap)).setCell ⟨g, ss.length, none⟩ (.int .i64 (y : Nat))) l d { L with segs := ss ++ [y], pls := L.pls ++ [(a, b, c)] } (.slice (some ⟨g, 0, none⟩) (ss.length + 1) sc) (.slice ao (L.pls.length + 1) cap) ∧ Fr (fun k => k = l ∨ (Value.slice (some ⟨g, 0, none⟩) (ss.length + 1) sc).ownBlock = some k ∨ pv.ownBlock = some k) w2 ((w3.setCell ⟨l, 4, none⟩ (.slice ao (L.pls.length + 1) cap)).setCell ⟨g, ss.length, none⟩ (.int .i64 (y : Nat))) := by
  have hgl : g ≠ l := (h.kinds.1 g rfl).1
  have hgp : pv.ownBlock ≠ some g := (h.kinds.1 g rfl).2
  have hl3 : w3.heap[l]? = w2.heap[l]? := hf.block l h.lt.1 (fun e => h.kinds.2 l e rfl)
  have hg3 : w3.heap[g]? = w2.heap[g]? := hf.block g (h.lt.2.1 g rfl) hgp
  have hpl : ∀ k, (Value.slice ao (L.pls.length + 1) cap).ownBlock = some k → k ≠ l ∧ k ≠ g := fun k hk => by
    rcases hb k hk with e2 | e2
    · exact ⟨h.kinds.2 k e2, fun e => hgp (e ▸ e2)⟩
    · have h1 := h.lt.1
      have h2 := h.lt.2.1 g rfl
      exact ⟨by omega, by omega⟩
  have hlen : L.segs.length = ss.length + 1 := by rw [hs]; simp
  refine ⟨⟨?_, ?_, ?_⟩, ?_⟩
  · rw [Below.heap_setCell _ _ _ _ (fun e => hgl e.symm), blkset (hl3.trans h.blk)]
    simp
  · have hso := h.so
    rw [hlen, hs] at hso
    have h2 : (w3.setCell ⟨l, 4, none⟩ (.slice ao (L.pls.length + 1) cap)).ownsRow 0 3 1 (.slice (some ⟨g, 0, none⟩) (ss.length + 1) sc) (ss.length + 1) (icells (ss ++ [x])) := ownsRow_of_block hso (fun k hk => by
      cases hk
      rw [Below.heap_setCell _ _ _ _ hgl, hg3])
    have h3 := (h2.stored ss.length (.int .i64 (y : Nat))).1
    have e : (icells (ss ++ [x])).set ss.length (.int .i64 (y : Nat)) = icells (ss ++ [y]) := by simp [icells]
    rw [e] at h3
    have hlen2 : (ss ++ [y]).length = ss.length + 1 := by simp
    show World.ownsRow _ 0 3 1 _ (ss ++ [y]).length _
    rw [hlen2]
    exact h3
  · have hlen2 : (L.pls ++ [(a, b, c)]).length = L.pls.length + 1 := by simp
    show World.ownsRow _ 0 54 3 _ (L.pls ++ [(a, b, c)]).length _
    rw [hlen2]
    exact ownsRow_of_block hown (fun k hk => by rw [Below.heap_setCell _ _ _ _ (hpl k hk).2, Below.heap_setCell _ _ _ _ (hpl k hk).1])
  · exact ((hf.mono (fun k _ e => .inr (.inr e))).setCell (.inl (.inl rfl)) _).setCell (.inl (.inr (.inl rfl))) _
set_option maxHeartbeats 1000000 in
set_option maxRecDepth 100000 in
/-- Log.note. -/
theorem note_any (w : World) (l d m : Nat) (L : LM) (s : DM) (q : DW) (O : Nat → Prop) (sv pv : Value) (ss : List Nat) (x n : Nat) (W : World) (h : WL w W l d m L s q O sv pv) (hs : L.segs = ss ++ [x]) (hl : ss.length < 100) (hp : L.pls.length ≤ 1000000) (hx : x ≤ 10000000) (hn : n ≤ 10000000) :
    Calls Tryd.prog 21 #[.pointer (some ⟨l, 0, none⟩), .int .i64 (n : Nat)] W fun e W' => e = .returned (.tuple #[]) ∧ ∃ pv', WL w W' l d m { L with segs := ss ++ [x + (12 + n)], pls := L.pls ++ [(ss.length, x + 12, n)] } s q O sv pv' ∧ Fr (fun k => k = l ∨ sv.ownBlock = some k ∨ pv.ownBlock = some k) W W' := by
  have hlen : L.segs.length = ss.length + 1 := by rw [hs]; simp
  have HO := hide (wopen_any l d L sv pv W h.G (by omega))
  rw [show (L.segs.length : Int) - 1 = (ss.length : Nat) by omega] at HO
  obtain ⟨g, sc, rfl, hsc, hc, hcf⟩ := h.G.last hs
  obtain ⟨c0, c1, c2, c3, c4, fz⟩ := h.G.cells
  have f4 := fz 4
  obtain ⟨po, pc, rfl⟩ := own_formX h.G.po
  obtain ⟨ao, cap, w3, hr3, hown3, hf3, hb3⟩ := app_span W.drew _ L.pls ss.length (x + 12) n (h.quiet (Fr.refl _ _).drew).G.po hp
  obtain ⟨hG3, hF3⟩ := (h.quiet (Fr.refl _ _).drew).G.noted (y := x + (12 + n)) hs hown3 hf3 hb3
  have hl3 : w3.heap[l]? = W.heap[l]? := hf3.block l h.G.lt.1 (fun e => h.G.kinds.2 l e rfl)
  have hg3 : w3.heap[g]? = W.heap[g]? := hf3.block g (h.G.lt.2.1 g rfl) (h.G.kinds.1 g rfl).2
  have hgl : g ≠ l := (h.G.kinds.1 g rfl).1
  have e3 : w3.cell? ⟨l, 3, none⟩ = some (.slice (some ⟨g, 0, none⟩) (ss.length + 1) sc) := by rw [← c3]; simp only [World.cell?, hl3]
  have e4 : w3.cell? ⟨l, 4, none⟩ = some (.slice po L.pls.length pc) := by rw [← c4]; simp only [World.cell?, hl3]
  have ef : w3.frozen? ⟨l, 4, none⟩ = false := by rw [← f4]; simp only [World.frozen?, hl3]
  have ec : w3.cell? ⟨g, ss.length, none⟩ = some (.int .i64 (x : Nat)) := by rw [← hc]; simp only [World.cell?, hg3]
  have ecf : w3.frozen? ⟨g, ss.length, none⟩ = false := by rw [← hcf]; simp only [World.frozen?, hg3]
  have hll := h.G.lt.1
  have hgg := h.G.lt.2.1 g rfl
  have hW3 := (h.quiet (Fr.refl _ _).drew).log hG3 hF3 (fun g hg => .inl hg) hb3
  have HR3 := hide (show (Builtin.append_ #[44, 44] 44 #[.slice po L.pls.length pc, .slice (some ⟨W.heap.size, 0, none⟩) 1 1]).run Tryd.prog (W.alloc (.cells #[.int .i64 (ss.length : Nat), .int .i64 ((x : Int) + 12), .int .i64 (n : Nat)] 54)).drew = .ok (.slice ao (L.pls.length + 1) cap) w3 from hr3)
  have hFF := ((Fr.refl (fun k => k = l ∨ (Value.slice (some ⟨g, 0, none⟩) (ss.length + 1) sc).ownBlock = some k ∨ (Value.slice po L.pls.length pc).ownBlock = some k) W).drew).trans hF3 (fun _ _ h => h)
  rw [show ((x + (12 + n) : Nat) : Int) = (x : Int) + (12 + (n : Int)) by omega] at hW3 hFF
  have HFF := hide hFF
  clear hFF
  have H3 := hide hW3
  clear hr3 hown3 hf3 hb3 hG3 hF3 hW3 h hs hlen c0 c1 c2 fz hl3 hg3
  generalize hSL : ss.length = SL at *
  generalize hPL : L.pls.length = PL at *
  clear hSL hPL
  have hNi : (SL : Int) < (SL : Int) + 1 := by omega
  have hw12 : IntKind.i64.wrap ((x : Int) + 12) = (x : Int) + 12 := by rw [IntKind.wrap_i64]; omega
  go_enter Tryd.func21, Tryd.ntmps21
  go_wp2_with (go_at_call 19; refine (unhide HO).mono ?_; rintro e w' ⟨rfl, rfl⟩; clear HO)
  go_region_law (refine step_app rfl (.tmp 11) (.tmp 23) 44 44 rfl _ _ _ (by simp [Act.eval]) (by simp [Act.eval]) (unhide HR3) ?_)
  all_goals
    go_wp2_with fail
    go_end0
    exact ⟨rfl, _, unhide H3, unhide HFF⟩
end Go.Proofs.YtfoifojlgojgaabDoor

namespace Go.Proofs.YtfoifojlgojgaabDoor
open Go.RowKit Go.ChangeShapes Go.WideShapes Go.Maps Go.Sort

set_option maxHeartbeats 1000000 in
set_option maxRecDepth 100000 in
/-- makeRoom where there is room. -/
theorem makeRoom_fits (l d : Nat) (L : LM) (sv pv : Value) (ss : List Nat) (x n : Nat) (W : World) (h : LgAt W l d L sv pv) (hs : L.segs = ss ++ [x]) (hl : ss.length < 100) (hx : x ≤ 10000000) (hn : n ≤ 10000000) (hz : L.size ≤ 10000000) (hr : x + n ≤ L.size) :
    Calls Tryd.prog 16 #[.pointer (some ⟨l, 0, none⟩), .int .i64 (n : Nat)] W fun e W' => e = .returned (.int .i64 0) ∧ Fr (fun _ => False) W W' := by
  have hlen : L.segs.length = ss.length + 1 := by rw [hs]; simp
  obtain ⟨g, sc, rfl, hsc, hc, hcf⟩ := h.last hs
  have HO : Hid (∀ W', Fr (fun _ => False) W W' → Calls Tryd.prog 19 #[.pointer (some ⟨l, 0, none⟩)] W' fun e w' => e = .returned (.int .i64 (ss.length : Nat)) ∧ w' = W') := fun W' hf => by
    have := wopen_any l d L _ pv W' (h.fr hf (fun h => h) (fun _ _ h => h) (fun _ _ h => h)) (by omega)
    rw [show (L.segs.length : Int) - 1 = (ss.length : Nat) by omega] at this
    exact this
  obtain ⟨c0, c1, c2, c3, c4, fz⟩ := h.cells
  clear h hs hlen c0 c1 c4 fz hcf
  generalize hSL : ss.length = SL at *
  generalize hZ : L.size = Z at *
  clear hSL hZ
  have hNi : (SL : Int) < (SL : Int) + 1 := by omega
  have hw1 : IntKind.i64.wrap ((Z : Int) - (x : Int)) = (Z : Int) - (x : Int) := by rw [IntKind.wrap_i64]; omega
  have hle : (n : Int) ≤ (Z : Int) - (x : Int) := by omega
  go_enter Tryd.func16, Tryd.ntmps16
  go_wp2_with fail
  go_region_held3 (fun w' => w'.cell? ⟨l, 2, none⟩ = some (.int .i64 (Z : Nat)) ∧ w'.cell? ⟨l, 3, none⟩ = some (.slice (some ⟨g, 0, none⟩) (SL + 1) sc) ∧ w'.cell? ⟨g, SL, none⟩ = some (.int .i64 (x : Nat)))
    (first | exact ⟨c2, c3, hc⟩)
    (first | (go_at_call 19; refine ((unhide HO) _ (Fr.refl _ _).drew).mono ?_; rintro e w' ⟨rfl, rfl⟩))
  all_goals
    go_wp2_with fail
    go_ret
    exact ⟨rfl, (Fr.refl _ _).drew⟩
end Go.Proofs.YtfoifojlgojgaabDoor

namespace Go.Proofs.YtfoifojlgojgaabDoor
open Go.RowKit Go.ChangeShapes Go.WideShapes Go.Maps Go.Sort

/-- A disk on which writes come through. -/
structure DM.Good (s : DM) : Prop where
  off : s.off = false
  full : s.full = false
  left : s.left = 0
  tear0 : 0 ≤ s.tear
  tear : s.tear < 9223372036854775808
  lim : s.limit ≤ 1048576
  wr : s.writes < 1000000000
set_option maxHeartbeats 2000000 in
set_option maxRecDepth 100000 in
/-- Log.Append, behind makeRoom. -/
theorem wappend_core (w : World) (l d m : Nat) (L L1 : LM) (s s1 : DM) (q : DW) (O : Nat → Prop) (sv pv y : Value) (ss : List Nat) (x : Nat) (p : List Nat) (W : World) (h : WL w W l d m L s q O sv pv) (hy : Src W y p)
    (HM : Calls Tryd.prog 16 #[.pointer (some ⟨l, 0, none⟩), .int .i64 ((12 + p.length : Nat) : Int)] W fun e W' => e = .returned (.int .i64 0) ∧ ∃ q1 O1 sv1, WL w W' l d m L1 s1 q1 O1 sv1 pv ∧ Src W' y p ∧ (∀ k, O1 k → O k ∨ W.heap.size ≤ k) ∧ (∀ g, sv1.ownBlock = some g → sv.ownBlock = some g ∨ W.heap.size ≤ g) ∧ Fr (fun k => O k ∨ k = l ∨ sv.ownBlock = some k ∨ pv.ownBlock = some k) W W')
    (hp : p.length ≤ 1048576) (hpz : p.length + 12 ≤ L.size) (hz : L.size ≤ 1048576) (hs : L1.segs = ss ++ [x]) (hpl : L1.pls = L.pls) (hnm : L1.name = L.name) (hnl : L.name.size ≤ 32) (hl : ss.length < 100) (hlp : L.pls.length ≤ 1000000) (hx : x ≤ 1048576)
    (hg : s1.Good) (hh : Maps.has s1.D (.string (nm (seg L.name ss.length))) = true) (hroom : s1.used + (p.length + 12) ≤ s1.limit) (hb : (s1.F (nm (seg L.name ss.length))).b.length ≤ 1048576) (hps : (s1.F (nm (seg L.name ss.length))).ps.length ≤ 1000000000) :
    Calls Tryd.prog 7 #[.pointer (some ⟨l, 0, none⟩), y] W fun e W' => e = .returned (.tuple #[.int .i64 (L.pls.length : Nat), .int .i64 0]) ∧ ∃ q' O' sv' pv', WL w W' l d m { L1 with segs := ss ++ [x + (12 + p.length)], pls := L.pls ++ [(ss.length, x + 12, p.length)] } (s1.app (nm (seg L.name ss.length)) (frame p)) q' O' sv' pv' ∧ (∀ k, O' k → O k ∨ W.heap.size ≤ k) ∧ Fr (fun k => O k ∨ k = l ∨ sv.ownBlock = some k ∨ pv.ownBlock = some k) W W' := by
  obtain ⟨yo, yc, rfl⟩ := hy.form
  obtain ⟨c0, c1, c2, c3, c4, fz⟩ := h.G.cells
  have HMM := hide HM
  have HA := hide (And.intro hs (And.intro hpl (And.intro hnm (And.intro hg (And.intro hh (And.intro hroom (And.intro hb hps)))))))
  have hsz := seg_size L.name ss.length hl
  have HB := hide (And.intro hp (And.intro hpz (And.intro hz (And.intro hnl (And.intro hl (And.intro hlp (And.intro hx hsz)))))))
  have e12 : (((12 + p.length : Nat)) : Int) = 12 + (p.length : Int) := by omega
  rw [e12] at HMM
  have hlt : ¬ ((L.size : Int) - 12 < (p.length : Int)) := by omega
  clear h hy HM hs hpl hnm hg hh hroom hb hps hsz hnl hl hlp hx c0 c1 c3 c4 fz e12
  obtain ⟨PN, hPN⟩ : ∃ PN, PN = p.length := ⟨_, rfl⟩
  rw [← hPN] at HMM hlt hp hpz ⊢
  have HPN := hide hPN
  clear hPN
  go_enter Tryd.func7, Tryd.ntmps7
  go_wp2_with fail
  refine (unhide HMM).mono ?_
  rintro e w1 ⟨rfl, q1, O1, sv1, hW1, hy1, hO1, hsv1, hFr1⟩
  have hsz1 := hFr1.size
  obtain ⟨c0, c1, _, _, c4, _⟩ := hW1.G.cells
  have HO : Hid (∀ W', Fr (fun _ => False) w1 W' → Calls Tryd.prog 19 #[.pointer (some ⟨l, 0, none⟩)] W' fun e w' => e = .returned (.int .i64 (ss.length : Nat)) ∧ w' = W') := fun W' hf => by
    obtain ⟨hs, _⟩ := unhide HA
    have hlen : L1.segs.length = ss.length + 1 := by rw [hs]; simp
    have hl := (unhide HB).2.2.2.2.1
    have := wopen_any l d L1 sv1 pv W' (hW1.quiet hf).G (by omega)
    rw [show (L1.segs.length : Int) - 1 = (ss.length : Nat) by omega] at this
    exact this
  have HFi : Hid (∀ W', Fr (fun _ => False) w1 W' → Calls Tryd.prog 18 #[.pointer (some ⟨l, 0, none⟩), .int .i64 (ss.length : Nat)] W' fun e W2 => e = .returned (.string (seg L.name ss.length)) ∧ Fr (fun _ => False) w1 W2) := fun W' hf => by
    have hl := (unhide HB).2.2.2.2.1
    have hnl := (unhide HB).2.2.2.1
    exact (file_any l ss.length L.name W' hl (by rw [← (unhide HA).2.2.1]; exact (hW1.quiet hf).G.cells.2.1) (by omega)).mono (fun e W2 h => ⟨h.1, hf.trans h.2 (fun _ _ h => h)⟩)
  have HFr : Hid (∀ W', Fr (fun _ => False) w1 W' → Calls Tryd.prog 20 #[.slice yo PN yc] W' fun e W2 => ∃ v, e = .returned v ∧ W2.ownsRow w1.heap.size 5 1 v (frame p).length (cellsOf (frame p)) ∧ Fr (fun _ => False) w1 W2) := fun W' hf => by
    refine (framed_any (.slice yo PN yc) p W' (hy1.fr0 hf) (unhide HB).1).mono ?_
    rintro e W2 ⟨v, rfl, h1, h2⟩
    exact ⟨v, rfl, own_mono h1 hf.size, hf.trans h2 (fun _ _ h => h)⟩
  have HAp : Hid (∀ W' v, Fr (fun _ => False) w1 W' → W'.ownsRow w1.heap.size 5 1 v (frame p).length (cellsOf (frame p)) → Calls Tryd.prog 17 #[.pointer (some ⟨d, 0, none⟩), .string (seg L.name ss.length), v] W' fun e W2 => e = .returned (.int .i64 0) ∧ ∃ q2 O2, WL w W2 l d m L1 (s1.app (nm (seg L.name ss.length)) (frame p)) q2 O2 sv1 pv ∧ (∀ k, O2 k → O k ∨ W.heap.size ≤ k) ∧ Fr (fun k => O k ∨ k = l ∨ sv.ownBlock = some k ∨ pv.ownBlock = some k) W W2) := fun W' v hf hv => by
    obtain ⟨hs, hpl, hnm, hg, hh, hroom, hb, hps⟩ := unhide HA
    obtain ⟨hp, hpz, hz, hnl, hl, hlp, hx, hsz⟩ := unhide HB
    have h1 := hW1.quiet hf
    obtain ⟨vo, vc, rfl⟩ := own_form hv
    have hcap : (frame p).length ≤ vc := by
      rcases hv.2 with ⟨_, e2⟩ | ⟨g, c, cur, e2, _, _, hc, _⟩
      · omega
      · simp only [Value.slice.injEq] at e2; omega
    have hc0 : s1.count (frame p).length = ({ s1 with writes := s1.writes + 1 }, (frame p).length) := by simp only [DM.count, hg.left, if_pos]
    refine (append_ok d m s1 q1 O1 (seg L.name ss.length) _ (frame p) W' h1.D hg.off (by simp only [maxLen]; omega) hh hg.full (own_src hv) (fun g o k c e hO => by cases e; have h2 := (hv.lt g rfl).1; have h3 := hW1.D.lt g hO; omega) (fun xo k c e => by cases e; exact hcap) (by rw [frame_len]; exact hroom) hg.lim hg.wr (by rw [hg.left]; decide) (by rw [hg.left]; decide) hg.tear0 hg.tear hb hps).mono ?_
    rintro e W2 ⟨rfl, q2, O2, hD, hf2, hO⟩
    refine ⟨?_, q2, O2, h1.disk hD hf2 hO, fun k hk => (hO k hk).elim (hO1 k) (fun h => .inr (Nat.le_trans hsz1 (Nat.le_trans hf.size h))), (hFr1.trans hf (fun _ _ h => h.elim)).trans hf2 (fun k hk h => (hO1 k h).elim .inl (fun h => by omega))⟩
    rw [hc0]
    simp [DM.code, hg.off]
  have HK : Hid (∀ W', Fr (fun _ => False) w1 W' → W'.cell? ⟨l, 0, none⟩ = some (.pointer (some ⟨d, 0, none⟩))) := fun W' hf => (hW1.quiet hf).G.cells.1
  have HSV1 := hide hsv1
  clear hW1 hy1 c1 c4 hO1 hsz1 hsv1 hFr1
  obtain ⟨SN, hSN⟩ : ∃ SN, SN = seg L.name ss.length := ⟨_, rfl⟩
  have HSN := hide hSN
  rw [← hSN] at HFi HAp
  clear hSN
  go_wp2_with fail
  go_region_held3 (fun w' => w'.cell? ⟨l, 0, none⟩ = some (.pointer (some ⟨d, 0, none⟩)))
    (first | exact (unhide HK) _ (Fr.refl _ _).drew | exact (unhide HK) _ hf2 | exact (unhide HK) _ hf3 | exact (unhide HW4).1.G.cells.1)
    (first
      | (go_at_call 19; refine ((unhide HO) _ (Fr.refl _ _).drew).mono ?_; rintro e w' ⟨rfl, rfl⟩; clear HO)
      | (go_at_call 18; refine ((unhide HFi) _ (Fr.refl _ _).drew).mono ?_; rintro e w2 ⟨rfl, hf2⟩; clear HFi)
      | (go_at_call 20; refine ((unhide HFr) _ hf2).mono ?_; rintro e w3 ⟨v3, rfl, hv3, hf3⟩; clear HFr)
      | (go_at_call 17; refine ((unhide HAp) _ _ hf3 hv3).mono ?_; rintro e w4 ⟨rfl, q4, O4, hW4, hO4⟩; clear HAp; have HW4 := hide (And.intro hW4 hO4); clear hW4 hO4))
  all_goals
    rw [unhide HSN] at HW4
    obtain ⟨hs, hpl, hnm, _⟩ := unhide HA
    obtain ⟨hp', hpz', hz', hnl, hl, hlp, hx, hsz⟩ := unhide HB
    have HN := hide (note_any w l d m L1 (s1.app (nm (seg L.name ss.length)) (frame p)) q4 O4 sv1 pv ss x p.length w4 (unhide HW4).1 hs hl (by rw [hpl]; exact hlp) (by omega) (by omega))
    rw [← unhide HPN, hpl] at HN
    clear hs hpl hnm hp' hpz' hz' hnl hl hx hsz
    go_wp2_with fail
    refine (unhide HN).mono ?_
    rintro e w5 ⟨rfl, pv5, hW5, hf5⟩
    have hFA := (unhide HW4).2.2.trans hf5 (fun k hk h => by
      rcases h with h | h | h
      · exact .inr (.inl h)
      · rcases (unhide HSV1) k h with h | h
        · exact .inr (.inr (.inl h))
        · omega
      · exact .inr (.inr (.inr h)))
    have HFA := hide hFA
    clear hFA hf5
    obtain ⟨po, pc, rfl⟩ := own_formX hW5.G.po
    obtain ⟨_, _, _, _, c4', _⟩ := hW5.G.cells
    have el : (L.pls ++ [(ss.length, x + 12, PN)]).length = L.pls.length + 1 := by simp
    rw [el] at c4' hW5
    have H5 := hide hW5
    clear hW5 el HN
    go_wp2_with fail
    go_ret2
    exact ⟨by go_num, _, _, _, _, unhide H5, (unhide HW4).2.1, unhide HFA⟩
end Go.Proofs.YtfoifojlgojgaabDoor

namespace Go.Proofs.YtfoifojlgojgaabDoor
open Go.RowKit Go.ChangeShapes Go.WideShapes Go.Maps Go.Sort

theorem scells_at (l : List (Nat × Nat × Nat)) (k : Nat) (p : Nat × Nat × Nat) (h : l[k]? = some p) : (scells l)[k * 3]? = some (.int .i64 (p.1 : Nat)) ∧ (scells l)[k * 3 + 1]? = some (.int .i64 (p.2.1 : Nat)) ∧ (scells l)[k * 3 + 2]? = some (.int .i64 (p.2.2 : Nat)) := by
  induction l generalizing k with
  | nil => simp at h
  | cons q r ih =>
    have e : scells (q :: r) = [.int .i64 (q.1 : Nat), .int .i64 (q.2.1 : Nat), .int .i64 (q.2.2 : Nat)] ++ scells r := rfl
    rw [e]
    cases k with
    | zero =>
      simp at h
      subst h
      simp
    | succ k =>
      have h2 := ih k (by simpa using h)
      rw [show (k + 1) * 3 = k * 3 + 3 by omega]
      refine ⟨?_, ?_, ?_⟩
      · rw [List.getElem?_append_right (by simp)]
        simpa using h2.1
      · rw [List.getElem?_append_right (by simp only [List.length_cons, List.length_nil]; omega), show k * 3 + 3 + 1 - [Value.int .i64 (q.1 : Nat), .int .i64 (q.2.1 : Nat), .int .i64 (q.2.2 : Nat)].length = k * 3 + 1 by simp only [List.length_cons, List.length_nil]; omega]
        exact h2.2.1
      · rw [List.getElem?_append_right (by simp only [List.length_cons, List.length_nil]; omega), show k * 3 + 3 + 2 - [Value.int .i64 (q.1 : Nat), .int .i64 (q.2.1 : Nat), .int .i64 (q.2.2 : Nat)].length = k * 3 + 2 by simp only [List.length_cons, List.length_nil]; omega]
        exact h2.2.2
/-- Where a payload is told. -/
theorem LgAt.pay {w : World} {l d : Nat} {L : LM} {sv pv : Value} {k a b c : Nat} (h : LgAt w l d L sv pv) (hk : L.pls[k]? = some (a, b, c)) : ∃ g pc, pv = .slice (some ⟨g, 0, none⟩) L.pls.length pc ∧ k < L.pls.length ∧ w.cell? ⟨g, k * 3, none⟩ = some (.int .i64 (a : Nat)) ∧ w.cell? ⟨g, k * 3 + 1, none⟩ = some (.int .i64 (b : Nat)) ∧ w.cell? ⟨g, k * 3 + 2, none⟩ = some (.int .i64 (c : Nat)) := by
  have hkl : k < L.pls.length := (List.getElem?_eq_some_iff.1 hk).1
  have hpo := h.po
  rcases hpo.2 with ⟨e1, e2⟩ | ⟨g, pc, cur, e1, _⟩
  · omega
  · subst e1
    obtain ⟨h1, h2, h3⟩ := scells_at L.pls k _ hk
    exact ⟨g, pc, rfl, hkl, (hpo.cellAt (k * 3) (by omega)).trans h1, (hpo.cellAt (k * 3 + 1) (by omega)).trans h2, (hpo.cellAt (k * 3 + 2) (by omega)).trans h3⟩
set_option maxHeartbeats 1000000 in
set_option maxRecDepth 100000 in
/-- Log.At of a place that is there. -/
theorem wat_ok (w : World) (l d m : Nat) (L : LM) (s : DM) (q : DW) (O : Nat → Prop) (sv pv : Value) (k a b c : Nat) (W : World) (h : WL w W l d m L s q O sv pv) (hk : L.pls[k]? = some (a, b, c)) (hnl : L.name.size ≤ 32) (ha : a < 100) (ho : s.off = false) (hh : Maps.has s.D (.string (nm (seg L.name a))) = true) (hb : (s.F (nm (seg L.name a))).b.length ≤ 1048576) (hbc : b + c ≤ (s.F (nm (seg L.name a))).b.length) :
    Calls Tryd.prog 8 #[.pointer (some ⟨l, 0, none⟩), .int .i64 (k : Nat)] W fun e W' => ∃ v, e = .returned (.tuple #[v, .int .i64 0]) ∧ W'.ownsRow W.heap.size 5 1 v c (cellsOf (((s.F (nm (seg L.name a))).b.drop b).take c)) ∧ Fr (fun _ => False) W W' := by
  obtain ⟨g, pc, rfl, hkl, e0, e1, e2⟩ := h.G.pay hk
  obtain ⟨c0, c1, c2, c3, c4, fz⟩ := h.G.cells
  have hsz := seg_size L.name a ha
  have HFi : Hid (∀ W', Fr (fun _ => False) W W' → Calls Tryd.prog 18 #[.pointer (some ⟨l, 0, none⟩), .int .i64 (a : Nat)] W' fun e W2 => e = .returned (.string (seg L.name a)) ∧ Fr (fun _ => False) W' W2) := fun W' hf =>
    file_any l a L.name W' ha (h.quiet hf).G.cells.2.1 (by omega)
  have HRd : Hid (∀ W', Fr (fun _ => False) W W' → Calls Tryd.prog 22 #[.pointer (some ⟨d, 0, none⟩), .string (seg L.name a), .int .i64 (b : Nat), .int .i64 (c : Nat)] W' fun e W2 => ∃ v, e = .returned (.tuple #[v, .int .i64 0]) ∧ W2.ownsRow W.heap.size 5 1 v c (cellsOf (((s.F (nm (seg L.name a))).b.drop b).take c)) ∧ Fr (fun _ => False) W W2 ∧ Fr (fun _ => False) W' W2) := fun W' hf => by
    refine (read_at d m b c s q O (seg L.name a) W' (h.quiet hf).D ho (by simp only [maxLen]; omega) hh hb hbc).mono ?_
    rintro e W2 ⟨v, rfl, h1, h2⟩
    exact ⟨v, rfl, own_mono h1 hf.size, hf.trans h2 (fun _ _ h => h), h2⟩
  have HK : Hid (∀ W', Fr (fun _ => False) W W' → W'.cell? ⟨l, 0, none⟩ = some (.pointer (some ⟨d, 0, none⟩))) := fun W' hf => (h.quiet hf).G.cells.1
  obtain ⟨X, hX⟩ : ∃ X, X = cellsOf (((s.F (nm (seg L.name a))).b.drop b).take c) := ⟨_, rfl⟩
  rw [← hX] at HRd ⊢
  obtain ⟨SN, hSN⟩ : ∃ SN, SN = seg L.name a := ⟨_, rfl⟩
  rw [← hSN] at HFi HRd
  obtain ⟨PL, hPL⟩ : ∃ PL, PL = L.pls.length := ⟨_, rfl⟩
  rw [← hPL] at c4 hkl
  clear h hk hX hSN hPL hnl ho hh hb hbc hsz c1 c2 c3 fz
  have hkl' : (k : Int) < (PL : Int) := by omega
  have hkl2 : ¬ ((PL : Int) ≤ (k : Int)) := by omega
  go_enter Tryd.func8, Tryd.ntmps8
  go_wp2_with fail
  obtain ⟨W1, hW1⟩ : ∃ W1, W1 = W.alloc (.cells #[.int .i64 (a : Nat), .int .i64 (b : Nat), .int .i64 (c : Nat)] 54) := ⟨_, rfl⟩
  have hf1 : Fr (fun _ => False) W W1 := by rw [hW1]; exact box1 W _
  have HBx : Hid (∀ W', Fr (fun _ => False) W1 W' → W'.cell? ⟨l, 0, none⟩ = some (.pointer (some ⟨d, 0, none⟩)) ∧ W'.cell? ⟨W.heap.size, 0, none⟩ = some (.int .i64 (a : Nat)) ∧ W'.cell? ⟨W.heap.size, 1, none⟩ = some (.int .i64 (b : Nat)) ∧ W'.cell? ⟨W.heap.size, 2, none⟩ = some (.int .i64 (c : Nat))) := fun W' hf => by
    have hb : W'.heap[W.heap.size]? = some (.cells #[.int .i64 (a : Nat), .int .i64 (b : Nat), .int .i64 (c : Nat)] 54) := by
      have h0 : W1.heap[W.heap.size]? = some (.cells #[.int .i64 (a : Nat), .int .i64 (b : Nat), .int .i64 (c : Nat)] 54) := by rw [hW1]; exact heap_alloc_new W _
      rw [hf.block _ (lt_of_block h0) (fun h => h)]
      exact h0
    refine ⟨(unhide HK) _ (hf1.trans hf (fun _ _ h => h)), ?_, ?_, ?_⟩ <;> simp [World.cell?, hb]
  have HF1 := hide hf1
  rw [← hW1]
  clear hW1 hf1 c0 c4 e0 e1 e2
  go_region_held3 (fun w' => w'.cell? ⟨l, 0, none⟩ = some (.pointer (some ⟨d, 0, none⟩)) ∧ w'.cell? ⟨W.heap.size, 0, none⟩ = some (.int .i64 (a : Nat)) ∧ w'.cell? ⟨W.heap.size, 1, none⟩ = some (.int .i64 (b : Nat)) ∧ w'.cell? ⟨W.heap.size, 2, none⟩ = some (.int .i64 (c : Nat)))
    (first | exact (unhide HBx) _ (Fr.refl _ _).drew | exact (unhide HBx) _ hf2 | exact (unhide HBx) _ hf3)
    (first
      | (go_at_call 18; refine ((unhide HFi) _ (unhide HF1).drew).mono ?_; rintro e w2 ⟨rfl, hf2'⟩; clear HFi; have hf2 : Fr (fun _ => False) W1 w2 := (Fr.refl _ _).drew.trans hf2' (fun _ _ h => h))
      | (go_at_call 22; refine ((unhide HRd) _ ((unhide HF1).trans hf2 (fun _ _ h => h))).mono ?_; rintro e w3 ⟨v3, rfl, hv3, hfW, hf3'⟩; clear HRd; have hf3 : Fr (fun _ => False) W1 w3 := hf2.trans hf3' (fun _ _ h => h); have H3 := hide (And.intro hv3 hfW); clear hv3 hfW))
  all_goals
    go_wp2_with fail
    go_ret2
    exact ⟨_, rfl, (unhide H3).1, (unhide H3).2⟩
end Go.Proofs.YtfoifojlgojgaabDoor

namespace Go.Proofs.YtfoifojlgojgaabDoor
open Go.RowKit Go.ChangeShapes Go.WideShapes Go.Maps Go.Sort

set_option maxHeartbeats 1000000 in
set_option maxRecDepth 100000 in
/-- Log.load where there is no such segment. -/
theorem load_none (w : World) (l d m : Nat) (L : LM) (s : DM) (q : DW) (O : Nat → Prop) (sv pv : Value) (i : Nat) (W : World) (h : WL w W l d m L s q O sv pv) (hi : i < 100) (hnl : L.name.size ≤ 32) (ho : s.off = false) (hh : Maps.has s.D (.string (nm (seg L.name i))) = false) :
    Calls Tryd.prog 39 #[.pointer (some ⟨l, 0, none⟩), .int .i64 (i : Nat)] W fun e W' => e = .returned (.tuple #[.slice none 0 0, .bool false]) ∧ Fr (fun _ => False) W W' := by
  have hsz := seg_size L.name i hi
  have HFi := hide (file_any l i L.name W hi h.G.cells.2.1 (by omega))
  have HZ : Hid (∀ W', Fr (fun _ => False) W W' → Calls Tryd.prog 47 #[.pointer (some ⟨d, 0, none⟩), .string (seg L.name i)] W' fun e W2 => e = .returned (.tuple #[.int .i64 0, .int .i64 15]) ∧ W2 = W') := fun W' hf =>
    size_no d m s q O (seg L.name i) 15 W' (h.quiet hf).D (by simp only [maxLen]; omega) (.inr ⟨ho, hh, rfl⟩)
  have HK : Hid (∀ W', Fr (fun _ => False) W W' → W'.cell? ⟨l, 0, none⟩ = some (.pointer (some ⟨d, 0, none⟩))) := fun W' hf => (h.quiet hf).G.cells.1
  obtain ⟨SN, hSN⟩ : ∃ SN, SN = seg L.name i := ⟨_, rfl⟩
  rw [← hSN] at HFi HZ
  clear h hSN hsz hnl ho hh
  go_enter Tryd.func39, Tryd.ntmps39
  go_wp2_with fail
  refine (unhide HFi).mono ?_
  rintro e w1 ⟨rfl, hf1⟩
  have c0 := (unhide HK) _ hf1
  have HF1 := hide hf1
  clear hf1
  go_wp2_with (go_at_call 47; refine ((unhide HZ) _ (unhide HF1)).mono ?_; rintro e w2 ⟨rfl, rfl⟩)
  go_ret2
  exact ⟨rfl, unhide HF1⟩
set_option maxHeartbeats 1000000 in
set_option maxRecDepth 100000 in
/-- Log.load of a segment that is there. -/
theorem load_at (w : World) (l d m : Nat) (L : LM) (s : DM) (q : DW) (O : Nat → Prop) (sv pv : Value) (i : Nat) (W : World) (h : WL w W l d m L s q O sv pv) (hi : i < 100) (hnl : L.name.size ≤ 32) (ho : s.off = false) (hh : Maps.has s.D (.string (nm (seg L.name i))) = true) (hb : (s.F (nm (seg L.name i))).b.length ≤ 1048576) :
    Calls Tryd.prog 39 #[.pointer (some ⟨l, 0, none⟩), .int .i64 (i : Nat)] W fun e W' => ∃ v, e = .returned (.tuple #[v, .bool true]) ∧ W'.ownsRow W.heap.size 5 1 v (s.F (nm (seg L.name i))).b.length (cellsOf (s.F (nm (seg L.name i))).b) ∧ Fr (fun _ => False) W W' := by
  have hsz := seg_size L.name i hi
  have HFi := hide (file_any l i L.name W hi h.G.cells.2.1 (by omega))
  have HZ : Hid (∀ W', Fr (fun _ => False) W W' → Calls Tryd.prog 47 #[.pointer (some ⟨d, 0, none⟩), .string (seg L.name i)] W' fun e W2 => e = .returned (.tuple #[.int .i64 ((s.F (nm (seg L.name i))).b.length : Nat), .int .i64 0]) ∧ W2 = W') := fun W' hf =>
    size_at d m s q O (seg L.name i) W' (h.quiet hf).D ho (by simp only [maxLen]; omega) hh
  have HR : Hid (∀ W', Fr (fun _ => False) W W' → Calls Tryd.prog 22 #[.pointer (some ⟨d, 0, none⟩), .string (seg L.name i), .int .i64 0, .int .i64 ((s.F (nm (seg L.name i))).b.length : Nat)] W' fun e W2 => ∃ v, e = .returned (.tuple #[v, .int .i64 0]) ∧ W2.ownsRow W.heap.size 5 1 v (s.F (nm (seg L.name i))).b.length (cellsOf (s.F (nm (seg L.name i))).b) ∧ Fr (fun _ => False) W W2) := fun W' hf => by
    refine (read0_at d m (s.F (nm (seg L.name i))).b.length s q O (seg L.name i) W' (h.quiet hf).D ho (by simp only [maxLen]; omega) hh hb (Nat.le_refl _)).mono ?_
    rintro e W2 ⟨v, rfl, h1, h2⟩
    rw [List.take_length] at h1
    exact ⟨v, rfl, own_mono h1 hf.size, hf.trans h2 (fun _ _ h => h)⟩
  have HK : Hid (∀ W', Fr (fun _ => False) W W' → W'.cell? ⟨l, 0, none⟩ = some (.pointer (some ⟨d, 0, none⟩))) := fun W' hf => (h.quiet hf).G.cells.1
  obtain ⟨BL, hBL⟩ : ∃ BL, BL = (s.F (nm (seg L.name i))).b.length := ⟨_, rfl⟩
  obtain ⟨X, hX⟩ : ∃ X, X = cellsOf (s.F (nm (seg L.name i))).b := ⟨_, rfl⟩
  rw [← hBL, ← hX] at HR ⊢
  rw [← hBL] at HZ
  obtain ⟨SN, hSN⟩ : ∃ SN, SN = seg L.name i := ⟨_, rfl⟩
  rw [← hSN] at HFi HZ HR
  clear h hSN hsz hnl ho hh hb hBL hX
  go_enter Tryd.func39, Tryd.ntmps39
  go_wp2_with fail
  refine (unhide HFi).mono ?_
  rintro e w1 ⟨rfl, hf1⟩
  have c0 := (unhide HK) _ hf1
  have HF1 := hide hf1
  clear hf1
  go_wp2_with (first
    | (go_at_call 47; refine ((unhide HZ) _ (unhide HF1)).mono ?_; rintro e w2 ⟨rfl, rfl⟩; clear HZ)
    | (go_at_call 22; refine ((unhide HR) _ (unhide HF1)).mono ?_; rintro e w3 ⟨v3, rfl, hv3, hf3⟩; clear HR; have H3 := hide (And.intro hv3 hf3); clear hv3 hf3))
  go_ret2
  exact ⟨v3, rfl, (unhide H3).1, (unhide H3).2⟩
set_option maxHeartbeats 1000000 in
set_option maxRecDepth 100000 in
/-- Log.scan where there is no segment. -/
theorem scan_none (w : World) (l d m : Nat) (L : LM) (s : DM) (q : DW) (O : Nat → Prop) (sv pv : Value) (W : World) (h : WL w W l d m L s q O sv pv) (hs : L.segs = []) (hnl : L.name.size ≤ 32) (ho : s.off = false) (hh : Maps.has s.D (.string (nm (seg L.name 0))) = false) :
    Calls Tryd.prog 28 #[.pointer (some ⟨l, 0, none⟩)] W fun e W' => e = .returned (.bool true) ∧ Fr (fun _ => False) W W' := by
  have HL := hide (load_none w l d m L s q O sv pv 0 W h (by decide) hnl ho hh)
  obtain ⟨c0, c1, c2, c3, c4, fz⟩ := h.G.cells
  obtain ⟨so, sc, rfl⟩ := own_formX h.G.so
  rw [hs] at c3
  have c3' : W.cell? ⟨l, 3, none⟩ = some (.slice so 0 sc) := c3
  have HL' : Hid (Calls Tryd.prog 39 #[.pointer (some ⟨l, 0, none⟩), .int .i64 0] W fun e W' => e = .returned (.tuple #[.slice none 0 0, .bool false]) ∧ Fr (fun _ => False) W W') := HL
  clear c3 HL
  clear h hs hnl ho hh c0 c1 c2 c4 fz
  go_enter Tryd.func28, Tryd.ntmps28
  go_wp2_with fail
  go_step3
  go_wp2_with fail
  go_step3
  go_wp2_with fail
  refine (unhide HL').mono ?_
  rintro e w1 ⟨rfl, hf1⟩
  have HF1 := hide hf1
  clear hf1
  go_wp2_with fail
  rw [Exit.noGoto_ret]
  go_ret
  exact ⟨rfl, unhide HF1⟩
end Go.Proofs.YtfoifojlgojgaabDoor

namespace Go.Proofs.YtfoifojlgojgaabDoor
open Go.RowKit Go.ChangeShapes Go.WideShapes Go.Maps Go.Sort

/-- A disk in memory that was made since w. -/
structure DS (w W : World) (d m : Nat) (s : DM) (q : DW) (O : Nat → Prop) : Prop where
  D : DkAt W d m s q O
  fr : Fr (fun _ => False) w W
  o : ∀ k, O k → w.heap.size ≤ k
theorem DS.step {w W W' : World} {d m : Nat} {s s' : DM} {q q' : DW} {O O' : Nat → Prop} (h : DS w W d m s q O) (hD : DkAt W' d m s' q' O') (hf : Fr O W W') (hO : ∀ k, O' k → O k ∨ W.heap.size ≤ k) : DS w W' d m s' q' O' :=
  ⟨hD, h.fr.absorb hf h.o, fun k hk => (hO k hk).elim (h.o k) (Nat.le_trans h.fr.size)⟩
theorem DS.quiet {w W W' : World} {d m : Nat} {s : DM} {q : DW} {O : Nat → Prop} (h : DS w W d m s q O) (hf : Fr (fun _ => False) W W') : DS w W' d m s q O :=
  ⟨h.D.fr hf (fun _ _ h => h), h.fr.trans hf (fun _ _ h => h), h.o⟩
theorem DS.upd {w W W' : World} {d m : Nat} {s s' : DM} {q : DW} {O : Nat → Prop} (h : DS w W d m s q O) (hD : DkAt W' d m s' q O) (hf : Fr (fun k => k = d) W W') : DS w W' d m s' q O :=
  ⟨hD, h.fr.absorb hf (fun k e => by rw [e]; exact h.o _ h.D.od), h.o⟩
def Zr (n : Nat) : List Nat := List.replicate n 0
theorem made_cells (n : Nat) : (madeCells #[Value.int .u8 0] n).toList = cellsOf (Zr n) := by
  apply List.ext_getElem?
  intro i
  by_cases hi : i < n
  · simp [madeCells, cellsOf, Zr, B, hi, Nat.mod_one]
  · simp [madeCells, cellsOf, Zr, hi]
/-- Append of n zeros, just made. -/
theorem DS.zeros {w W : World} {d m : Nat} {s : DM} {q : DW} {O : Nat → Prop} (h : DS w W d m s q O) (name : ByteArray) (n : Nat) (ho : s.off = false) (hn : name.size ≤ maxLen) (hh : Maps.has s.D (.string (nm name)) = true) (hfu : s.full = false) (hroom : s.used + n ≤ s.limit) (hlim : s.limit ≤ 1048576) (hw : s.writes < 1000000000) (hl0 : 0 ≤ s.left) (hl : s.left < 9223372036854775808) (ht0 : 0 ≤ s.tear) (ht : s.tear < 9223372036854775808) (hb : (s.F (nm name)).b.length ≤ 1048576) (hp : (s.F (nm name)).ps.length ≤ 1000000000) :
    Calls Tryd.prog 17 #[.pointer (some ⟨d, 0, none⟩), .string name, .slice (some ⟨W.heap.size, 0, none⟩) n n] (W.alloc (.cells (madeCells #[.int .u8 0] n) 5)) fun e W' => e = .returned (.int .i64 (s.count n).1.code) ∧ ∃ q' O', DS w W' d m (s.app (nm name) (Zr n)) q' O' := by
  have hz : (Zr n).length = n := List.length_replicate
  have hbx := box1 W (.cells (madeCells #[.int .u8 0] n) 5)
  have h1 := h.quiet hbx
  have hsrc : Src (W.alloc (.cells (madeCells #[.int .u8 0] n) 5)) (.slice (some ⟨W.heap.size, 0, none⟩) n n) (Zr n) := by
    have := lit_srcW W (Zr n) (madeCells #[.int .u8 0] n) n (made_cells n)
    rw [hz] at this
    exact this
  have hc := append_ok d m s q O name _ (Zr n) _ h1.D ho hn hh hfu hsrc (fun g o k c e hO => by cases e; exact Nat.lt_irrefl _ (h.D.lt _ hO)) (fun xo k c e => by cases e; exact Nat.le_refl _) (by rw [hz]; exact hroom) hlim hw hl0 hl ht0 ht hb hp
  rw [hz] at hc
  refine hc.mono ?_
  rintro e W' ⟨rfl, q', O', hD, hf, hO⟩
  exact ⟨rfl, q', O', h1.step hD hf hO⟩
/-- DiskKnown's files. -/
def KF (A B : FM) : List UInt8 → FM := fun k => if k = [97] then A else if k = [98] then B else ⟨[], 0, []⟩
def K2 (u wr : Nat) (off full : Bool) (left tear : Int) (D : DataW Unit) (A B : FM) : DM := ⟨20, u, wr, off, full, left, tear, D, KF A B⟩
def f0 : FM := ⟨[], 0, []⟩
theorem KF_a (A B X : FM) : (fun k => if k = [97] then X else KF A B k) = KF X B := by
  funext k
  simp only [KF]
  split <;> rfl
theorem KF_b (A B X : FM) : (fun k => if k = [98] then X else KF A B k) = KF A X := by
  funext k
  simp only [KF]
  by_cases h : k = [97]
  · subst h; rfl
  · rw [if_neg h]
    by_cases h2 : k = [98]
    · rw [if_pos h2, if_neg h, if_pos h2]
    · rw [if_neg h2, if_neg h2, if_neg h, if_neg h2]
theorem KF_0 : (fun _ => f0) = KF f0 f0 := by
  funext k
  simp only [KF, f0]
  split
  · rfl
  · split <;> rfl
def Da (fa : Nat) : DataW Unit := .map [(.string [97], .lit (.int .i64 (fa : Nat)))]
def Db (fb : Nat) : DataW Unit := .map [(.string [98], .lit (.int .i64 (fb : Nat)))]
def Dab (fa fb : Nat) : DataW Unit := .map [(.string [97], .lit (.int .i64 (fa : Nat))), (.string [98], .lit (.int .i64 (fb : Nat)))]
theorem K_new : DM.new 20 = K2 0 0 false false 0 0 (.map []) f0 f0 := by
  simp only [DM.new, K2]
  congr 1
  exact KF_0
theorem K_made_a (fa : Nat) : (K2 0 0 false false 0 0 (.map []) f0 f0).made [97] fa = K2 0 0 false false 0 0 (Da fa) f0 f0 := by
  simp only [DM.made, K2]
  congr 1
  exact KF_a f0 f0 f0
theorem K_made_b (u wr fa fb : Nat) (A : FM) : (K2 u wr false false 0 0 (Da fa) A f0).made [98] fb = K2 u wr false false 0 0 (Dab fa fb) A f0 := by
  simp only [DM.made, K2]
  congr 1
  exact KF_b A f0 f0
theorem K_app_a (u wr : Nat) (full : Bool) (tear : Int) (D : DataW Unit) (A B : FM) (l : List Nat) : (K2 u wr false full 0 tear D A B).app [97] l = K2 (u + l.length) (wr + 1) false full 0 tear D (A.put (wr + 1) l) B := by
  simp only [DM.app, DM.count, K2, if_pos, List.take_length]
  congr 1
  exact KF_a A B _
theorem K_app_b (u wr : Nat) (full : Bool) (tear : Int) (D : DataW Unit) (A B : FM) (l : List Nat) : (K2 u wr false full 0 tear D A B).app [98] l = K2 (u + l.length) (wr + 1) false full 0 tear D A (B.put (wr + 1) l) := by
  simp only [DM.app, DM.count, K2, if_pos, List.take_length]
  congr 1
  exact KF_b A B _
theorem K_app_a2 (u wr : Nat) (D : DataW Unit) (A B : FM) (l : List Nat) : (K2 u wr false false 2 3 D A B).app [97] l = K2 (u + l.length) (wr + 1) false false 1 3 D (A.put (wr + 1) l) B := by
  have e : ∀ n, (K2 u wr false false 2 3 D A B).count n = (K2 u (wr + 1) false false 1 3 D A B, n) := fun n => rfl
  simp only [DM.app, e, List.take_length]
  simp only [K2]
  congr 1
  exact KF_a A B _
theorem K_app_b1 (u wr : Nat) (D : DataW Unit) (A B : FM) : (K2 u wr false false 1 3 D A B).app [98] (Zr 5) = K2 (u + 3) (wr + 1) true false 0 3 D A (B.put (wr + 1) (Zr 3)) := by
  have e : (K2 u wr false false 1 3 D A B).count 5 = (K2 u (wr + 1) true false 0 3 D A B, 3) := rfl
  simp only [DM.app, show (Zr 5).length = 5 from rfl, e]
  simp only [K2]
  congr 1
  exact KF_b A B _
theorem K_syn_a (u wr : Nat) (D : DataW Unit) (A B : FM) : { K2 u wr false false 0 0 D A B with F := fun k => if k = [97] then ((K2 u wr false false 0 0 D A B).F [97]).synced else (K2 u wr false false 0 0 D A B).F k } = K2 u wr false false 0 0 D A.synced B := by
  simp only [K2]
  congr 1
  exact KF_a A B _
theorem K_turn_b (u wr : Nat) (D : DataW Unit) (A B : FM) (a k : Nat) : (K2 u wr false false 0 0 D A B).turned [98] a k = K2 u wr false false 0 0 D A (B.turn a k) := by
  simp only [DM.turned, K2]
  congr 1
  exact KF_b A B _
theorem KF_len (A B : FM) (n : Nat) (hA : A.b.length ≤ n ∧ A.safe ≤ A.b.length) (hB : B.b.length ≤ n ∧ B.safe ≤ B.b.length) (k : List UInt8) : (KF A B k).b.length ≤ n ∧ (KF A B k).safe ≤ (KF A B k).b.length := by
  simp only [KF]
  split
  · exact hA
  · split
    · exact hB
    · exact ⟨Nat.zero_le _, Nat.le_refl _⟩
end Go.Proofs.YtfoifojlgojgaabDoor

