import Derived.Test.YtmmaddlphclpnaaGreatDoorWlb
import Derived.Test.YtmmaddlphclpnaaGreatDoorWlf
import Derived.ScopeJumps
import Derived.WalkMore
import Derived.Test.YtmmaddlphclpnaaGreatDoorDlp
import Derived.Test.YtmmaddlphclpnaaGreatDoorDlj
namespace Go.Proofs.YtmmaddlphclpnaaGreatDoor
open Go.RowKit Go.ChangeShapes Go.WideShapes Go.Maps Go.Sort

theorem Tryz.infoInt : (Tryz.prog.info? 3).map (fun i => (i.zero, i.size, i.bytes)) = some (some (.int .i64 0), 1, 8) := by kernel_rfl
theorem Tryz.infoSpan : (Tryz.prog.info? 93).map (fun i => (i.zero, i.size, i.bytes)) = some (some (.agg #[.int .i64 0, .int .i64 0, .int .i64 0]), 3, 24) := by kernel_rfl
/-- append(segments, n). -/
theorem app_int (w : World) (v : Value) (l : List Nat) (n : Nat) (h : w.ownsRow 0 3 1 v l.length (icells l)) (hl : l.length ≤ 1000000) :
    ∃ ao cap w', (Builtin.append_ #[37, 37] 37 #[v, .slice (some ⟨w.heap.size, 0, none⟩) 1 1]).run Tryz.prog (w.alloc (.cells #[.int .i64 (n : Nat)] 3)) = .ok (.slice ao (l.length + 1) cap) w' ∧ w'.ownsRow 0 3 1 (.slice ao (l.length + 1) cap) (l.length + 1) (icells (l ++ [n])) ∧ Fr (fun g => v.ownBlock = some g) w w' ∧
      ∀ g, (Value.slice ao (l.length + 1) cap).ownBlock = some g → v.ownBlock = some g ∨ w.heap.size ≤ g := by
  obtain ⟨i0, hi, hz0, hz1, hz2⟩ := info_parts Tryz.infoInt
  have hb := ownsRow_of_block (w' := w.alloc (.cells #[.int .i64 (n : Nat)] 3)) h (fun g hg => Below.heap_alloc _ _ _ (h.lt g hg).2)
  obtain ⟨v', w', hr, h2, h3, _, h5⟩ := run_append_own_at (P := Tryz.prog) (w := w.alloc (.cells #[.int .i64 (n : Nat)] 3)) 0 37 37 3 i0 (.int .i64 0) 1 8 Tryz.underlying37 hi hz0 hz1 hz2 rfl (by decide) v l.length (icells l) hb ⟨w.heap.size, 0, none⟩ 1 1 [.int .i64 (n : Nat)] rfl (fun j u hu => by
    rw [addr_add, World.cell?_alloc_at _ _ _ _ rfl]; simpa using hu) (fun u hu => by simp at hu; subst hu; rfl) (by simp only [maxLen]; omega) (by omega) (Nat.zero_le _)
  obtain ⟨ao, cap, rfl⟩ := own_formX h2
  refine ⟨ao, cap, w', hr, by simpa [icells] using h2, ((box1 w _).mono (fun _ _ h => h.elim)).grown h3 (fun g hg => .inl hg), fun g hg => ?_⟩
  rcases h5 with e | e
  · rw [e] at hg; exact .inl hg
  · rw [e] at hg; cases hg; exact .inr (by simp)
/-- append(payloads, span{a, b, c}). -/
theorem app_span (w : World) (v : Value) (l : List (Nat × Nat × Nat)) (a b c : Nat) (h : w.ownsRow 0 93 3 v l.length (scells l)) (hl : l.length ≤ 1000000) :
    ∃ ao cap w', (Builtin.append_ #[80, 80] 80 #[v, .slice (some ⟨w.heap.size, 0, none⟩) 1 1]).run Tryz.prog (w.alloc (.cells #[.int .i64 (a : Nat), .int .i64 (b : Nat), .int .i64 (c : Nat)] 93)) = .ok (.slice ao (l.length + 1) cap) w' ∧ w'.ownsRow 0 93 3 (.slice ao (l.length + 1) cap) (l.length + 1) (scells (l ++ [(a, b, c)])) ∧ Fr (fun g => v.ownBlock = some g) w w' ∧
      ∀ g, (Value.slice ao (l.length + 1) cap).ownBlock = some g → v.ownBlock = some g ∨ w.heap.size ≤ g := by
  obtain ⟨i0, hi, hz0, hz1, hz2⟩ := info_parts Tryz.infoSpan
  have hb := ownsRow_of_block (w' := w.alloc (.cells #[.int .i64 (a : Nat), .int .i64 (b : Nat), .int .i64 (c : Nat)] 93)) h (fun g hg => Below.heap_alloc _ _ _ (h.lt g hg).2)
  obtain ⟨v', w', hr, h2, h3, _, h5⟩ := run_append_own_at (P := Tryz.prog) (w := w.alloc (.cells #[.int .i64 (a : Nat), .int .i64 (b : Nat), .int .i64 (c : Nat)] 93)) 0 80 80 93 i0 (.agg #[.int .i64 0, .int .i64 0, .int .i64 0]) 3 24 Tryz.underlying80 hi hz0 hz1 hz2 rfl (by decide) v l.length (scells l) hb ⟨w.heap.size, 0, none⟩ 1 1 [.int .i64 (a : Nat), .int .i64 (b : Nat), .int .i64 (c : Nat)] rfl (fun j u hu => by
    rw [addr_add, World.cell?_alloc_at _ _ _ _ rfl]; simpa using hu) (fun u hu => by simp at hu; rcases hu with rfl | rfl | rfl <;> rfl) (by simp only [maxLen]; omega) (by omega) (Nat.zero_le _)
  obtain ⟨ao, cap, rfl⟩ := own_formX h2
  refine ⟨ao, cap, w', hr, by rw [scells_app]; exact h2, ((box1 w _).mono (fun _ _ h => h.elim)).grown h3 (fun g hg => .inl hg), fun g hg => ?_⟩
  rcases h5 with e | e
  · rw [e] at hg; exact .inl hg
  · rw [e] at hg; cases hg; exact .inr (by simp)
theorem seg_size (name : ByteArray) (i : Nat) (hi : i < 100) : 1 ≤ (seg name i).size ∧ (seg name i).size ≤ name.size + 3 := by
  have hdl : (Lib.decDigits i).length ≤ 2 ∧ 1 ≤ (Lib.decDigits i).length := by
    by_cases h : i < 10
    · rw [Lib.decDigits_one h]; exact ⟨Nat.le_succ 1, Nat.le_refl 1⟩
    · rw [Lib.decDigits_two h hi]; exact ⟨Nat.le_refl 2, Nat.le_succ 1⟩
  have e : (seg name i).size = name.size + 1 + (Lib.decDigits i).length := by
    rw [seg, ByteArray.size_append, ByteArray.size_append, show (ByteArray.mk #[46]).size = 1 from rfl]
    rfl
  omega
/-- A new segment is counted in. -/
theorem LgAt.addSeg {w2 w3 : World} {l d : Nat} {L : LM} {sv pv : Value} {ao : Option Addr} {cap n : Nat} (h : LgAt w2 l d L sv pv) (hown : w3.ownsRow 0 3 1 (.slice ao (L.segs.length + 1) cap) (L.segs.length + 1) (icells (L.segs ++ [n]))) (hf : Fr (fun g => sv.ownBlock = some g) w2 w3) (hb : ∀ g, (Value.slice ao (L.segs.length + 1) cap).ownBlock = some g → sv.ownBlock = some g ∨ w2.heap.size ≤ g) :
    LgAt (w3.setCell ⟨l, 3, none⟩ (.slice ao (L.segs.length + 1) cap)) l d { L with segs := L.segs ++ [n] } (.slice ao (L.segs.length + 1) cap) pv ∧ Fr (fun g => g = l ∨ sv.ownBlock = some g ∨ pv.ownBlock = some g) w2 (w3.setCell ⟨l, 3, none⟩ (.slice ao (L.segs.length + 1) cap)) := by
  have hl3 : w3.heap[l]? = w2.heap[l]? := hf.block l h.lt.1 (fun e => (h.kinds.1 l e).1 rfl)
  have hne : ∀ g, (Value.slice ao (L.segs.length + 1) cap).ownBlock = some g → g ≠ l := fun g hg e => by
    rcases hb g hg with e2 | e2
    · exact (h.kinds.1 g e2).1 e
    · have := h.lt.1; omega
  refine ⟨⟨?_, ?_, ?_⟩, ?_⟩
  · rw [blkset (hl3.trans h.blk)]
    simp
  · have hlen : (L.segs ++ [n]).length = L.segs.length + 1 := by simp
    show World.ownsRow _ 0 3 1 _ (L.segs ++ [n]).length _
    rw [hlen]
    exact ownsRow_of_block hown (fun g hg => Below.heap_setCell _ _ _ _ (hne g hg))
  · refine ownsRow_of_block h.po (fun g hg => ?_)
    rw [Below.heap_setCell _ _ _ _ (h.kinds.2 g hg)]
    exact hf.block g (h.lt.2.2 g hg) (fun e => (h.kinds.1 g e).2 hg)
  · exact (hf.mono (fun g _ e => .inr (.inl e))).setCell (.inl (.inl rfl)) _
set_option maxHeartbeats 1000000 in
set_option maxRecDepth 100000 in
/-- Log.begin, where there is no such file yet. -/
theorem begin_ok (w : World) (l d m : Nat) (L : LM) (s : DM) (q : DW) (O : Nat → Prop) (sv pv : Value) (W : World) (h : WL w W l d m L s q O sv pv) (ho : s.off = false) (hn : L.name.size ≤ 32) (hl : L.segs.length < 100) (hh : Maps.has s.D (.string (nm (seg L.name L.segs.length))) = false) (hs : Maps.size s.D < 256) :
    Calls Tryz.prog 74 #[.pointer (some ⟨l, 0, none⟩)] W fun e W' => e = .returned (.int .i64 0) ∧ ∃ fb q' O' sv', WL w W' l d m { L with segs := L.segs ++ [0] } (s.made (nm (seg L.name L.segs.length)) fb) q' O' sv' pv := by
  obtain ⟨c0, c1, c2, c3, c4, fz⟩ := h.G.cells
  obtain ⟨so, sc, rfl⟩ := own_formX h.G.so
  have hsz := seg_size L.name L.segs.length hl
  have HFI : Hid (∀ W', Fr (fun _ => False) W W' → Calls Tryz.prog 43 #[.pointer (some ⟨l, 0, none⟩), .int .i64 (L.segs.length : Nat)] W' fun e W2 => e = .returned (.string (seg L.name L.segs.length)) ∧ Fr (fun _ => False) W W2) := fun W' hf =>
    (file_any l L.segs.length L.name W' hl (h.quiet hf).G.cells.2.1 (by omega)).mono (fun e W2 h => ⟨h.1, hf.trans h.2 (fun _ _ h => h)⟩)
  have HC : Hid (∀ W', Fr (fun _ => False) W W' → Calls Tryz.prog 97 #[.pointer (some ⟨d, 0, none⟩), .string (seg L.name L.segs.length)] W' fun e W2 => e = .returned (.int .i64 0) ∧ ∃ fb q' O', WL w W2 l d m L (s.made (nm (seg L.name L.segs.length)) fb) q' O' (.slice so L.segs.length sc) pv) := fun W' hf => by
    have h1 := h.quiet hf
    refine (create_ok d m s q O (seg L.name L.segs.length) W' h1.D ho hsz.1 (by omega) hh hs).mono ?_
    rintro e W2 ⟨rfl, fb, q', O', hD, hf2, hO⟩
    exact ⟨rfl, fb, q', O', h1.disk hD hf2 hO⟩
  have HK : Hid (∀ W', Fr (fun _ => False) W W' → W'.cell? ⟨l, 0, none⟩ = some (.pointer (some ⟨d, 0, none⟩)) ∧ W'.cell? ⟨l, 3, none⟩ = some (.slice so L.segs.length sc)) := fun W' hf => ⟨(h.quiet hf).G.cells.1, (h.quiet hf).G.cells.2.2.2.1⟩
  have HL := hide hl
  clear h hsz ho hn hh hs c1 c2 c4 fz hl
  obtain ⟨SN, hSN⟩ : ∃ SN, SN = seg L.name L.segs.length := ⟨_, rfl⟩
  rw [← hSN] at HFI HC ⊢
  clear hSN
  obtain ⟨N, hN⟩ : ∃ N, N = L.segs.length := ⟨_, rfl⟩
  rw [← hN] at HFI HC HK HL c3
  have HN := hide hN
  clear hN
  go_enter Tryz.func74, Tryz.ntmps74
  go_wp2_with fail
  go_region_held3 (fun w' => w'.cell? ⟨l, 0, none⟩ = some (.pointer (some ⟨d, 0, none⟩)) ∧ w'.cell? ⟨l, 3, none⟩ = some (.slice so N sc))
    (first | exact (unhide HK) _ (Fr.refl _ _).drew | exact (unhide HK) _ hf1 | exact ⟨(unhide HW).G.cells.1, (unhide HW).G.cells.2.2.2.1⟩)
    (first
      | (go_at_call 43; refine ((unhide HFI) _ (Fr.refl _ _).drew).mono ?_; rintro e w1 ⟨rfl, hf1⟩; clear HFI)
      | (go_at_call 97; refine ((unhide HC) _ hf1).mono ?_; rintro e w2 ⟨rfl, fb, q2, O2, hW⟩; clear HC; have HW := hide hW; clear hW))
  all_goals
    obtain ⟨c0', c1', c2', c3', c4', fz'⟩ := (unhide HW).G.cells
    have f3' := fz' 3
    obtain ⟨ao, cap, w3, hr3, hown3, hf3, hb3⟩ := app_int w2 _ L.segs 0 (unhide HW).G.so (by have := unhide HL; have := unhide HN; omega)
    obtain ⟨hG3, hF3⟩ := (unhide HW).G.addSeg hown3 hf3 hb3
    have hl3 : w3.frozen? ⟨l, 3, none⟩ = false := by
      have h0 : w3.heap[l]? = w2.heap[l]? := hf3.block l (unhide HW).G.lt.1 (fun e => ((unhide HW).G.kinds.1 l e).1 rfl)
      simp [World.frozen?, h0, (unhide HW).G.blk]
    have hl3c : w3.cell? ⟨l, 3, none⟩ = some (.slice so N sc) := by
      have h0 : w3.heap[l]? = w2.heap[l]? := hf3.block l (unhide HW).G.lt.1 (fun e => ((unhide HW).G.kinds.1 l e).1 rfl)
      rw [← c3']
      simp only [World.cell?, h0]
    have hW3 := (unhide HW).log hG3 hF3 hb3 (fun g hg => .inl hg)
    rw [← unhide HN] at hr3 hW3
    have HR3 := hide hr3
    have H3 := hide hW3
    clear hr3 hown3 hf3 hb3 hG3 hF3 hW3 c0' c1' c2' c4' fz'
    go_wp2_with (at_builtin; refine wpList_app rfl _ _ 37 37 rfl _ _ _ rfl rfl (unhide HR3) ?_; clear HR3)
    go_ret
    exact ⟨rfl, fb, q2, O2, _, unhide H3⟩
end Go.Proofs.YtmmaddlphclpnaaGreatDoor

namespace Go.Proofs.YtmmaddlphclpnaaGreatDoor
open Go.RowKit Go.ChangeShapes Go.WideShapes Go.Maps Go.Sort

theorem icells_at (ss : List Nat) (x : Nat) : (icells (ss ++ [x]))[ss.length]? = some (.int .i64 (x : Nat)) := by
  simp [icells]
theorem LgAt.last {w : World} {l d : Nat} {L : LM} {sv pv : Value} {ss : List Nat} {x : Nat} (h : LgAt w l d L sv pv) (hs : L.segs = ss ++ [x]) : ∃ g c, sv = .slice (some ⟨g, 0, none⟩) (ss.length + 1) c ∧ ss.length + 1 ≤ c ∧ w.cell? ⟨g, ss.length, none⟩ = some (.int .i64 (x : Nat)) ∧ w.frozen? ⟨g, ss.length, none⟩ = false := by
  have hso := h.so
  have hlen : L.segs.length = ss.length + 1 := by rw [hs]; simp
  rw [hlen] at hso
  rcases hso.2 with ⟨e1, e2⟩ | ⟨g, c, cur, e1, _, e3, e4, _⟩
  · omega
  · subst e1
    refine ⟨g, c, rfl, e4, ?_, by simp [World.frozen?, e3]⟩
    rw [hso.cellAt ss.length (by omega), hs]
    exact icells_at ss x
/-- A frame is counted in. -/
theorem LgAt.noted {w2 w3 : World} {l d g sc : Nat} {L : LM} {pv : Value} {ao : Option Addr} {cap x y a b c : Nat} {ss : List Nat} (h : LgAt w2 l d L (.slice (some ⟨g, 0, none⟩) (ss.length + 1) sc) pv) (hs : L.segs = ss ++ [x]) (hown : w3.ownsRow 0 93 3 (.slice ao (L.pls.length + 1) cap) (L.pls.length + 1) (scells (L.pls ++ [(a, b, c)]))) (hf : Fr (fun g => pv.ownBlock = some g) w2 w3) (hb : ∀ g, (Value.slice ao (L.pls.length + 1) cap).ownBlock = some g → pv.ownBlock = some g ∨ w2.heap.size ≤ g) :
    LgAt ((w3.setCell ⟨l, 4, none⟩ (.slice ao (L.pls.length + 1) cap)).setCell ⟨g, ss.length, none⟩ (.int .i64 (y : Nat))) l d { L with segs := ss ++ [y], pls := L.pls ++ [(a, b, c)] } (.slice (some ⟨g, 0, none⟩) (ss.length + 1) sc) (.slice ao (L.pls.length + 1) cap) ∧ Fr (fun k => k = l ∨ (Value.slice (some ⟨g, 0, none⟩) (ss.length + 1) sc).ownBlock = some k ∨ pv.ownBlock = some k) w2 ((w3.setCell ⟨l, 4, none⟩ (.slice ao (L.pls.length + 1) cap)).setCell ⟨g, ss.length, none⟩ (.int .i64 (y : Nat))) := by
  have hgl : g ≠ l := (h.kinds.1 g rfl).1
  have hgp : pv.ownBlock ≠ some g := (h.kinds.1 g rfl).2
  have hl3 : w3.heap[l]? = w2.heap[l]? := hf.block l h.lt.1 (fun e => h.kinds.2 l e rfl)
  have hg3 : w3.heap[g]? = w2.heap[g]? := hf.block g (h.lt.2.1 g rfl) hgp
  have hpl : ∀ k, (Value.slice ao (L.pls.length + 1) cap).ownBlock = some k → k ≠ l ∧ k ≠ g := fun k hk => by
    rcases hb k hk with e2 | e2
    · exact ⟨h.kinds.2 k e2, fun e => hgp (e ▸ e2)⟩
    · have h1 := h.lt.1
      have h2 := h.lt.2.1 g rfl
      exact ⟨by omega, by omega⟩
  have hlen : L.segs.length = ss.length + 1 := by rw [hs]; simp
  refine ⟨⟨?_, ?_, ?_⟩, ?_⟩
  · rw [Below.heap_setCell _ _ _ _ (fun e => hgl e.symm), blkset (hl3.trans h.blk)]
    simp
  · have hso := h.so
    rw [hlen, hs] at hso
    have h2 : (w3.setCell ⟨l, 4, none⟩ (.slice ao (L.pls.length + 1) cap)).ownsRow 0 3 1 (.slice (some ⟨g, 0, none⟩) (ss.length + 1) sc) (ss.length + 1) (icells (ss ++ [x])) := ownsRow_of_block hso (fun k hk => by
      cases hk
      rw [Below.heap_setCell _ _ _ _ hgl, hg3])
    have h3 := (h2.stored ss.length (.int .i64 (y : Nat))).1
    have e : (icells (ss ++ [x])).set ss.length (.int .i64 (y : Nat)) = icells (ss ++ [y]) := by simp [icells]
    rw [e] at h3
    have hlen2 : (ss ++ [y]).length = ss.length + 1 := by simp
    show World.ownsRow _ 0 3 1 _ (ss ++ [y]).length _
    rw [hlen2]
    exact h3
  · have hlen2 : (L.pls ++ [(a, b, c)]).length = L.pls.length + 1 := by simp
    show World.ownsRow _ 0 93 3 _ (L.pls ++ [(a, b, c)]).length _
    rw [hlen2]
    exact ownsRow_of_block hown (fun k hk => by rw [Below.heap_setCell _ _ _ _ (hpl k hk).2, Below.heap_setCell _ _ _ _ (hpl k hk).1])
  · exact ((hf.mono (fun k _ e => .inr (.inr e))).setCell (.inl (.inl rfl)) _).setCell (.inl (.inr (.inl rfl))) _
set_option maxHeartbeats 1000000 in
set_option maxRecDepth 100000 in
/-- Log.note. -/
theorem note_any (w : World) (l d m : Nat) (L : LM) (s : DM) (q : DW) (O : Nat → Prop) (sv pv : Value) (ss : List Nat) (x n : Nat) (W : World) (h : WL w W l d m L s q O sv pv) (hs : L.segs = ss ++ [x]) (hl : ss.length < 100) (hp : L.pls.length ≤ 1000000) (hx : x ≤ 10000000) (hn : n ≤ 10000000) :
    Calls Tryz.prog 46 #[.pointer (some ⟨l, 0, none⟩), .int .i64 (n : Nat)] W fun e W' => e = .returned (.tuple #[]) ∧ ∃ pv', WL w W' l d m { L with segs := ss ++ [x + (12 + n)], pls := L.pls ++ [(ss.length, x + 12, n)] } s q O sv pv' ∧ Fr (fun k => k = l ∨ sv.ownBlock = some k ∨ pv.ownBlock = some k) W W' := by
  have hlen : L.segs.length = ss.length + 1 := by rw [hs]; simp
  have HO := hide (wopen_any l d L sv pv W h.G (by omega))
  rw [show (L.segs.length : Int) - 1 = (ss.length : Nat) by omega] at HO
  obtain ⟨g, sc, rfl, hsc, hc, hcf⟩ := h.G.last hs
  obtain ⟨c0, c1, c2, c3, c4, fz⟩ := h.G.cells
  have f4 := fz 4
  obtain ⟨po, pc, rfl⟩ := own_formX h.G.po
  obtain ⟨ao, cap, w3, hr3, hown3, hf3, hb3⟩ := app_span W.drew _ L.pls ss.length (x + 12) n (h.quiet (Fr.refl _ _).drew).G.po hp
  obtain ⟨hG3, hF3⟩ := (h.quiet (Fr.refl _ _).drew).G.noted (y := x + (12 + n)) hs hown3 hf3 hb3
  have hl3 : w3.heap[l]? = W.heap[l]? := hf3.block l h.G.lt.1 (fun e => h.G.kinds.2 l e rfl)
  have hg3 : w3.heap[g]? = W.heap[g]? := hf3.block g (h.G.lt.2.1 g rfl) (h.G.kinds.1 g rfl).2
  have hgl : g ≠ l := (h.G.kinds.1 g rfl).1
  have e3 : w3.cell? ⟨l, 3, none⟩ = some (.slice (some ⟨g, 0, none⟩) (ss.length + 1) sc) := by rw [← c3]; simp only [World.cell?, hl3]
  have e4 : w3.cell? ⟨l, 4, none⟩ = some (.slice po L.pls.length pc) := by rw [← c4]; simp only [World.cell?, hl3]
  have ef : w3.frozen? ⟨l, 4, none⟩ = false := by rw [← f4]; simp only [World.frozen?, hl3]
  have ec : w3.cell? ⟨g, ss.length, none⟩ = some (.int .i64 (x : Nat)) := by rw [← hc]; simp only [World.cell?, hg3]
  have ecf : w3.frozen? ⟨g, ss.length, none⟩ = false := by rw [← hcf]; simp only [World.frozen?, hg3]
  have hll := h.G.lt.1
  have hgg := h.G.lt.2.1 g rfl
  have hW3 := (h.quiet (Fr.refl _ _).drew).log hG3 hF3 (fun g hg => .inl hg) hb3
  have HR3 := hide (show (Builtin.append_ #[80, 80] 80 #[.slice po L.pls.length pc, .slice (some ⟨W.heap.size, 0, none⟩) 1 1]).run Tryz.prog (W.alloc (.cells #[.int .i64 (ss.length : Nat), .int .i64 ((x : Int) + 12), .int .i64 (n : Nat)] 93)).drew = .ok (.slice ao (L.pls.length + 1) cap) w3 from hr3)
  have hFF := ((Fr.refl (fun k => k = l ∨ (Value.slice (some ⟨g, 0, none⟩) (ss.length + 1) sc).ownBlock = some k ∨ (Value.slice po L.pls.length pc).ownBlock = some k) W).drew).trans hF3 (fun _ _ h => h)
  rw [show ((x + (12 + n) : Nat) : Int) = (x : Int) + (12 + (n : Int)) by omega] at hW3 hFF
  have HFF := hide hFF
  clear hFF
  have H3 := hide hW3
  clear hr3 hown3 hf3 hb3 hG3 hF3 hW3 h hs hlen c0 c1 c2 fz hl3 hg3
  generalize hSL : ss.length = SL at *
  generalize hPL : L.pls.length = PL at *
  clear hSL hPL
  have hNi : (SL : Int) < (SL : Int) + 1 := by omega
  have hw12 : IntKind.i64.wrap ((x : Int) + 12) = (x : Int) + 12 := by rw [IntKind.wrap_i64]; omega
  go_enter Tryz.func46, Tryz.ntmps46
  go_wp2_with (go_at_call 44; refine (unhide HO).mono ?_; rintro e w' ⟨rfl, rfl⟩; clear HO)
  go_region_law (refine step_app rfl (.tmp 11) (.tmp 23) 80 80 rfl _ _ _ (by simp [Act.eval]) (by simp [Act.eval]) (unhide HR3) ?_)
  all_goals
    go_wp2_with fail
    go_end0
    exact ⟨rfl, _, unhide H3, unhide HFF⟩
end Go.Proofs.YtmmaddlphclpnaaGreatDoor

namespace Go.Proofs.YtmmaddlphclpnaaGreatDoor
open Go.RowKit Go.ChangeShapes Go.WideShapes Go.Maps Go.Sort

set_option maxHeartbeats 1000000 in
set_option maxRecDepth 100000 in
/-- makeRoom where there is room. -/
theorem makeRoom_fits (l d : Nat) (L : LM) (sv pv : Value) (ss : List Nat) (x n : Nat) (W : World) (h : LgAt W l d L sv pv) (hs : L.segs = ss ++ [x]) (hl : ss.length < 100) (hx : x ≤ 10000000) (hn : n ≤ 10000000) (hz : L.size ≤ 10000000) (hr : x + n ≤ L.size) :
    Calls Tryz.prog 41 #[.pointer (some ⟨l, 0, none⟩), .int .i64 (n : Nat)] W fun e W' => e = .returned (.int .i64 0) ∧ Fr (fun _ => False) W W' := by
  have hlen : L.segs.length = ss.length + 1 := by rw [hs]; simp
  obtain ⟨g, sc, rfl, hsc, hc, hcf⟩ := h.last hs
  have HO : Hid (∀ W', Fr (fun _ => False) W W' → Calls Tryz.prog 44 #[.pointer (some ⟨l, 0, none⟩)] W' fun e w' => e = .returned (.int .i64 (ss.length : Nat)) ∧ w' = W') := fun W' hf => by
    have := wopen_any l d L _ pv W' (h.fr hf (fun h => h) (fun _ _ h => h) (fun _ _ h => h)) (by omega)
    rw [show (L.segs.length : Int) - 1 = (ss.length : Nat) by omega] at this
    exact this
  obtain ⟨c0, c1, c2, c3, c4, fz⟩ := h.cells
  clear h hs hlen c0 c1 c4 fz hcf
  generalize hSL : ss.length = SL at *
  generalize hZ : L.size = Z at *
  clear hSL hZ
  have hNi : (SL : Int) < (SL : Int) + 1 := by omega
  have hw1 : IntKind.i64.wrap ((Z : Int) - (x : Int)) = (Z : Int) - (x : Int) := by rw [IntKind.wrap_i64]; omega
  have hle : (n : Int) ≤ (Z : Int) - (x : Int) := by omega
  go_enter Tryz.func41, Tryz.ntmps41
  go_wp2_with fail
  go_region_held3 (fun w' => w'.cell? ⟨l, 2, none⟩ = some (.int .i64 (Z : Nat)) ∧ w'.cell? ⟨l, 3, none⟩ = some (.slice (some ⟨g, 0, none⟩) (SL + 1) sc) ∧ w'.cell? ⟨g, SL, none⟩ = some (.int .i64 (x : Nat)))
    (first | exact ⟨c2, c3, hc⟩)
    (first | (go_at_call 44; refine ((unhide HO) _ (Fr.refl _ _).drew).mono ?_; rintro e w' ⟨rfl, rfl⟩))
  all_goals
    go_wp2_with fail
    go_ret
    exact ⟨rfl, (Fr.refl _ _).drew⟩
end Go.Proofs.YtmmaddlphclpnaaGreatDoor

namespace Go.Proofs.YtmmaddlphclpnaaGreatDoor
open Go.RowKit Go.ChangeShapes Go.WideShapes Go.Maps Go.Sort

/-- A disk on which writes come through. -/
structure DM.Good (s : DM) : Prop where
  off : s.off = false
  full : s.full = false
  left : s.left = 0
  tear0 : 0 ≤ s.tear
  tear : s.tear < 9223372036854775808
  lim : s.limit ≤ 1048576
  wr : s.writes < 1000000000
set_option maxHeartbeats 2000000 in
set_option maxRecDepth 100000 in
/-- Log.Append, behind makeRoom. -/
theorem wappend_core (w : World) (l d m : Nat) (L L1 : LM) (s s1 : DM) (q : DW) (O : Nat → Prop) (sv pv y : Value) (ss : List Nat) (x : Nat) (p : List Nat) (W : World) (h : WL w W l d m L s q O sv pv) (hy : Src W y p)
    (HM : Calls Tryz.prog 41 #[.pointer (some ⟨l, 0, none⟩), .int .i64 ((12 + p.length : Nat) : Int)] W fun e W' => e = .returned (.int .i64 0) ∧ ∃ q1 O1 sv1, WL w W' l d m L1 s1 q1 O1 sv1 pv ∧ Src W' y p ∧ (∀ k, O1 k → O k ∨ W.heap.size ≤ k) ∧ (∀ g, sv1.ownBlock = some g → sv.ownBlock = some g ∨ W.heap.size ≤ g) ∧ Fr (fun k => O k ∨ k = l ∨ sv.ownBlock = some k ∨ pv.ownBlock = some k) W W')
    (hp : p.length ≤ 1048576) (hpz : p.length + 12 ≤ L.size) (hz : L.size ≤ 1048576) (hs : L1.segs = ss ++ [x]) (hpl : L1.pls = L.pls) (hnm : L1.name = L.name) (hnl : L.name.size ≤ 32) (hl : ss.length < 100) (hlp : L.pls.length ≤ 1000000) (hx : x ≤ 1048576)
    (hg : s1.Good) (hh : Maps.has s1.D (.string (nm (seg L.name ss.length))) = true) (hroom : s1.used + (p.length + 12) ≤ s1.limit) (hb : (s1.F (nm (seg L.name ss.length))).b.length ≤ 1048576) (hps : (s1.F (nm (seg L.name ss.length))).ps.length ≤ 1000000000) :
    Calls Tryz.prog 13 #[.pointer (some ⟨l, 0, none⟩), y] W fun e W' => e = .returned (.tuple #[.int .i64 (L.pls.length : Nat), .int .i64 0]) ∧ ∃ q' O' sv' pv', WL w W' l d m { L1 with segs := ss ++ [x + (12 + p.length)], pls := L.pls ++ [(ss.length, x + 12, p.length)] } (s1.app (nm (seg L.name ss.length)) (frame p)) q' O' sv' pv' ∧ (∀ k, O' k → O k ∨ W.heap.size ≤ k) ∧ Fr (fun k => O k ∨ k = l ∨ sv.ownBlock = some k ∨ pv.ownBlock = some k) W W' := by
  obtain ⟨yo, yc, rfl⟩ := hy.form
  obtain ⟨c0, c1, c2, c3, c4, fz⟩ := h.G.cells
  have HMM := hide HM
  have HA := hide (And.intro hs (And.intro hpl (And.intro hnm (And.intro hg (And.intro hh (And.intro hroom (And.intro hb hps)))))))
  have hsz := seg_size L.name ss.length hl
  have HB := hide (And.intro hp (And.intro hpz (And.intro hz (And.intro hnl (And.intro hl (And.intro hlp (And.intro hx hsz)))))))
  have e12 : (((12 + p.length : Nat)) : Int) = 12 + (p.length : Int) := by omega
  rw [e12] at HMM
  have hlt : ¬ ((L.size : Int) - 12 < (p.length : Int)) := by omega
  clear h hy HM hs hpl hnm hg hh hroom hb hps hsz hnl hl hlp hx c0 c1 c3 c4 fz e12
  obtain ⟨PN, hPN⟩ : ∃ PN, PN = p.length := ⟨_, rfl⟩
  rw [← hPN] at HMM hlt hp hpz ⊢
  have HPN := hide hPN
  clear hPN
  go_enter Tryz.func13, Tryz.ntmps13
  go_wp2_with fail
  refine (unhide HMM).mono ?_
  rintro e w1 ⟨rfl, q1, O1, sv1, hW1, hy1, hO1, hsv1, hFr1⟩
  have hsz1 := hFr1.size
  obtain ⟨c0, c1, _, _, c4, _⟩ := hW1.G.cells
  have HO : Hid (∀ W', Fr (fun _ => False) w1 W' → Calls Tryz.prog 44 #[.pointer (some ⟨l, 0, none⟩)] W' fun e w' => e = .returned (.int .i64 (ss.length : Nat)) ∧ w' = W') := fun W' hf => by
    obtain ⟨hs, _⟩ := unhide HA
    have hlen : L1.segs.length = ss.length + 1 := by rw [hs]; simp
    have hl := (unhide HB).2.2.2.2.1
    have := wopen_any l d L1 sv1 pv W' (hW1.quiet hf).G (by omega)
    rw [show (L1.segs.length : Int) - 1 = (ss.length : Nat) by omega] at this
    exact this
  have HFi : Hid (∀ W', Fr (fun _ => False) w1 W' → Calls Tryz.prog 43 #[.pointer (some ⟨l, 0, none⟩), .int .i64 (ss.length : Nat)] W' fun e W2 => e = .returned (.string (seg L.name ss.length)) ∧ Fr (fun _ => False) w1 W2) := fun W' hf => by
    have hl := (unhide HB).2.2.2.2.1
    have hnl := (unhide HB).2.2.2.1
    exact (file_any l ss.length L.name W' hl (by rw [← (unhide HA).2.2.1]; exact (hW1.quiet hf).G.cells.2.1) (by omega)).mono (fun e W2 h => ⟨h.1, hf.trans h.2 (fun _ _ h => h)⟩)
  have HFr : Hid (∀ W', Fr (fun _ => False) w1 W' → Calls Tryz.prog 45 #[.slice yo PN yc] W' fun e W2 => ∃ v, e = .returned v ∧ W2.ownsRow w1.heap.size 5 1 v (frame p).length (cellsOf (frame p)) ∧ Fr (fun _ => False) w1 W2) := fun W' hf => by
    refine (framed_any (.slice yo PN yc) p W' (hy1.fr0 hf) (unhide HB).1).mono ?_
    rintro e W2 ⟨v, rfl, h1, h2⟩
    exact ⟨v, rfl, own_mono h1 hf.size, hf.trans h2 (fun _ _ h => h)⟩
  have HAp : Hid (∀ W' v, Fr (fun _ => False) w1 W' → W'.ownsRow w1.heap.size 5 1 v (frame p).length (cellsOf (frame p)) → Calls Tryz.prog 42 #[.pointer (some ⟨d, 0, none⟩), .string (seg L.name ss.length), v] W' fun e W2 => e = .returned (.int .i64 0) ∧ ∃ q2 O2, WL w W2 l d m L1 (s1.app (nm (seg L.name ss.length)) (frame p)) q2 O2 sv1 pv ∧ (∀ k, O2 k → O k ∨ W.heap.size ≤ k) ∧ Fr (fun k => O k ∨ k = l ∨ sv.ownBlock = some k ∨ pv.ownBlock = some k) W W2) := fun W' v hf hv => by
    obtain ⟨hs, hpl, hnm, hg, hh, hroom, hb, hps⟩ := unhide HA
    obtain ⟨hp, hpz, hz, hnl, hl, hlp, hx, hsz⟩ := unhide HB
    have h1 := hW1.quiet hf
    obtain ⟨vo, vc, rfl⟩ := own_form hv
    have hcap : (frame p).length ≤ vc := by
      rcases hv.2 with ⟨_, e2⟩ | ⟨g, c, cur, e2, _, _, hc, _⟩
      · omega
      · simp only [Value.slice.injEq] at e2; omega
    have hc0 : s1.count (frame p).length = ({ s1 with writes := s1.writes + 1 }, (frame p).length) := by simp only [DM.count, hg.left, if_pos]
    refine (append_ok d m s1 q1 O1 (seg L.name ss.length) _ (frame p) W' h1.D hg.off (by simp only [maxLen]; omega) hh hg.full (own_src hv) (fun g o k c e hO => by cases e; have h2 := (hv.lt g rfl).1; have h3 := hW1.D.lt g hO; omega) (fun xo k c e => by cases e; exact hcap) (by rw [frame_len]; exact hroom) hg.lim hg.wr (by rw [hg.left]; decide) (by rw [hg.left]; decide) hg.tear0 hg.tear hb hps).mono ?_
    rintro e W2 ⟨rfl, q2, O2, hD, hf2, hO⟩
    refine ⟨?_, q2, O2, h1.disk hD hf2 hO, fun k hk => (hO k hk).elim (hO1 k) (fun h => .inr (Nat.le_trans hsz1 (Nat.le_trans hf.size h))), (hFr1.trans hf (fun _ _ h => h.elim)).trans hf2 (fun k hk h => (hO1 k h).elim .inl (fun h => by omega))⟩
    rw [hc0]
    simp [DM.code, hg.off]
  have HK : Hid (∀ W', Fr (fun _ => False) w1 W' → W'.cell? ⟨l, 0, none⟩ = some (.pointer (some ⟨d, 0, none⟩))) := fun W' hf => (hW1.quiet hf).G.cells.1
  have HSV1 := hide hsv1
  clear hW1 hy1 c1 c4 hO1 hsz1 hsv1 hFr1
  obtain ⟨SN, hSN⟩ : ∃ SN, SN = seg L.name ss.length := ⟨_, rfl⟩
  have HSN := hide hSN
  rw [← hSN] at HFi HAp
  clear hSN
  go_wp2_with fail
  go_region_held3 (fun w' => w'.cell? ⟨l, 0, none⟩ = some (.pointer (some ⟨d, 0, none⟩)))
    (first | exact (unhide HK) _ (Fr.refl _ _).drew | exact (unhide HK) _ hf2 | exact (unhide HK) _ hf3 | exact (unhide HW4).1.G.cells.1)
    (first
      | (go_at_call 44; refine ((unhide HO) _ (Fr.refl _ _).drew).mono ?_; rintro e w' ⟨rfl, rfl⟩; clear HO)
      | (go_at_call 43; refine ((unhide HFi) _ (Fr.refl _ _).drew).mono ?_; rintro e w2 ⟨rfl, hf2⟩; clear HFi)
      | (go_at_call 45; refine ((unhide HFr) _ hf2).mono ?_; rintro e w3 ⟨v3, rfl, hv3, hf3⟩; clear HFr)
      | (go_at_call 42; refine ((unhide HAp) _ _ hf3 hv3).mono ?_; rintro e w4 ⟨rfl, q4, O4, hW4, hO4⟩; clear HAp; have HW4 := hide (And.intro hW4 hO4); clear hW4 hO4))
  all_goals
    rw [unhide HSN] at HW4
    obtain ⟨hs, hpl, hnm, _⟩ := unhide HA
    obtain ⟨hp', hpz', hz', hnl, hl, hlp, hx, hsz⟩ := unhide HB
    have HN := hide (note_any w l d m L1 (s1.app (nm (seg L.name ss.length)) (frame p)) q4 O4 sv1 pv ss x p.length w4 (unhide HW4).1 hs hl (by rw [hpl]; exact hlp) (by omega) (by omega))
    rw [← unhide HPN, hpl] at HN
    clear hs hpl hnm hp' hpz' hz' hnl hl hx hsz
    go_wp2_with fail
    refine (unhide HN).mono ?_
    rintro e w5 ⟨rfl, pv5, hW5, hf5⟩
    have hFA := (unhide HW4).2.2.trans hf5 (fun k hk h => by
      rcases h with h | h | h
      · exact .inr (.inl h)
      · rcases (unhide HSV1) k h with h | h
        · exact .inr (.inr (.inl h))
        · omega
      · exact .inr (.inr (.inr h)))
    have HFA := hide hFA
    clear hFA hf5
    obtain ⟨po, pc, rfl⟩ := own_formX hW5.G.po
    obtain ⟨_, _, _, _, c4', _⟩ := hW5.G.cells
    have el : (L.pls ++ [(ss.length, x + 12, PN)]).length = L.pls.length + 1 := by simp
    rw [el] at c4' hW5
    have H5 := hide hW5
    clear hW5 el HN
    go_wp2_with fail
    go_ret2
    exact ⟨by go_num, _, _, _, _, unhide H5, (unhide HW4).2.1, unhide HFA⟩
end Go.Proofs.YtmmaddlphclpnaaGreatDoor

namespace Go.Proofs.YtmmaddlphclpnaaGreatDoor
open Go.RowKit Go.ChangeShapes Go.WideShapes Go.Maps Go.Sort

set_option maxHeartbeats 1000000 in
set_option maxRecDepth 100000 in
/-- Log.begin, where there is no such file yet. -/
theorem begin2 (w : World) (l d m : Nat) (L : LM) (s : DM) (q : DW) (O : Nat → Prop) (sv pv : Value) (W : World) (h : WL w W l d m L s q O sv pv) (ho : s.off = false) (hn : L.name.size ≤ 32) (hl : L.segs.length < 100) (hh : Maps.has s.D (.string (nm (seg L.name L.segs.length))) = false) (hs : Maps.size s.D < 256) :
    Calls Tryz.prog 74 #[.pointer (some ⟨l, 0, none⟩)] W fun e W' => e = .returned (.int .i64 0) ∧ ∃ fb q' O' sv', WL w W' l d m { L with segs := L.segs ++ [0] } (s.made (nm (seg L.name L.segs.length)) fb) q' O' sv' pv ∧ (∀ k, O' k → O k ∨ W.heap.size ≤ k) ∧ (∀ g, sv'.ownBlock = some g → sv.ownBlock = some g ∨ W.heap.size ≤ g) ∧ Fr (fun k => O k ∨ k = l ∨ sv.ownBlock = some k ∨ pv.ownBlock = some k) W W' := by
  obtain ⟨c0, c1, c2, c3, c4, fz⟩ := h.G.cells
  obtain ⟨so, sc, rfl⟩ := own_formX h.G.so
  have hsz := seg_size L.name L.segs.length hl
  have HFI : Hid (∀ W', Fr (fun _ => False) W W' → Calls Tryz.prog 43 #[.pointer (some ⟨l, 0, none⟩), .int .i64 (L.segs.length : Nat)] W' fun e W2 => e = .returned (.string (seg L.name L.segs.length)) ∧ Fr (fun _ => False) W W2) := fun W' hf =>
    (file_any l L.segs.length L.name W' hl (h.quiet hf).G.cells.2.1 (by omega)).mono (fun e W2 h => ⟨h.1, hf.trans h.2 (fun _ _ h => h)⟩)
  have HC : Hid (∀ W', Fr (fun _ => False) W W' → Calls Tryz.prog 97 #[.pointer (some ⟨d, 0, none⟩), .string (seg L.name L.segs.length)] W' fun e W2 => e = .returned (.int .i64 0) ∧ ∃ fb q' O', WL w W2 l d m L (s.made (nm (seg L.name L.segs.length)) fb) q' O' (.slice so L.segs.length sc) pv ∧ (∀ k, O' k → O k ∨ W.heap.size ≤ k) ∧ Fr (fun k => O k ∨ k = l ∨ (Value.slice so L.segs.length sc).ownBlock = some k ∨ pv.ownBlock = some k) W W2) := fun W' hf => by
    have h1 := h.quiet hf
    refine (create_ok d m s q O (seg L.name L.segs.length) W' h1.D ho hsz.1 (by omega) hh hs).mono ?_
    rintro e W2 ⟨rfl, fb, q', O', hD, hf2, hO⟩
    exact ⟨rfl, fb, q', O', h1.disk hD hf2 hO, fun k hk => (hO k hk).imp id (Nat.le_trans hf.size), (hf.mono (fun _ _ h => h.elim)).trans (hf2.mono (fun _ _ h => .inl h)) (fun _ _ h => h)⟩
  have HK : Hid (∀ W', Fr (fun _ => False) W W' → W'.cell? ⟨l, 0, none⟩ = some (.pointer (some ⟨d, 0, none⟩)) ∧ W'.cell? ⟨l, 3, none⟩ = some (.slice so L.segs.length sc)) := fun W' hf => ⟨(h.quiet hf).G.cells.1, (h.quiet hf).G.cells.2.2.2.1⟩
  have HL := hide hl
  clear h hsz ho hn hh hs c1 c2 c4 fz hl
  obtain ⟨SN, hSN⟩ : ∃ SN, SN = seg L.name L.segs.length := ⟨_, rfl⟩
  rw [← hSN] at HFI HC ⊢
  clear hSN
  obtain ⟨N, hN⟩ : ∃ N, N = L.segs.length := ⟨_, rfl⟩
  rw [← hN] at HFI HC HK HL c3
  have HN := hide hN
  clear hN
  go_enter Tryz.func74, Tryz.ntmps74
  go_wp2_with fail
  go_region_held3 (fun w' => w'.cell? ⟨l, 0, none⟩ = some (.pointer (some ⟨d, 0, none⟩)) ∧ w'.cell? ⟨l, 3, none⟩ = some (.slice so N sc))
    (first | exact (unhide HK) _ (Fr.refl _ _).drew | exact (unhide HK) _ hf1 | exact ⟨(unhide HW).1.G.cells.1, (unhide HW).1.G.cells.2.2.2.1⟩)
    (first
      | (go_at_call 43; refine ((unhide HFI) _ (Fr.refl _ _).drew).mono ?_; rintro e w1 ⟨rfl, hf1⟩; clear HFI)
      | (go_at_call 97; refine ((unhide HC) _ hf1).mono ?_; rintro e w2 ⟨rfl, fb, q2, O2, hW⟩; clear HC; have HW := hide hW; clear hW))
  all_goals
    obtain ⟨c0', c1', c2', c3', c4', fz'⟩ := (unhide HW).1.G.cells
    have f3' := fz' 3
    obtain ⟨ao, cap, w3, hr3, hown3, hf3, hb3⟩ := app_int w2 _ L.segs 0 (unhide HW).1.G.so (by have := unhide HL; have := unhide HN; omega)
    obtain ⟨hG3, hF3⟩ := (unhide HW).1.G.addSeg hown3 hf3 hb3
    have hl3 : w3.frozen? ⟨l, 3, none⟩ = false := by
      have h0 : w3.heap[l]? = w2.heap[l]? := hf3.block l (unhide HW).1.G.lt.1 (fun e => ((unhide HW).1.G.kinds.1 l e).1 rfl)
      simp [World.frozen?, h0, (unhide HW).1.G.blk]
    have hl3c : w3.cell? ⟨l, 3, none⟩ = some (.slice so N sc) := by
      have h0 : w3.heap[l]? = w2.heap[l]? := hf3.block l (unhide HW).1.G.lt.1 (fun e => ((unhide HW).1.G.kinds.1 l e).1 rfl)
      rw [← c3']
      simp only [World.cell?, h0]
    have hW3 := (unhide HW).1.log hG3 hF3 hb3 (fun g hg => .inl hg)
    have hsz2 := (unhide HW).2.2.size
    have hFA := (unhide HW).2.2.trans hF3 (fun k _ h => .inr h)
    rw [← unhide HN] at hFA
    have hSV : ∀ g, (Value.slice ao (L.segs.length + 1) cap).ownBlock = some g → (Value.slice so N sc).ownBlock = some g ∨ W.heap.size ≤ g := fun g hg => (hb3 g hg).imp id (Nat.le_trans hsz2)
    have HFA := hide (And.intro (unhide HW).2.1 (And.intro hSV hFA))
    clear hFA hSV hsz2
    rw [← unhide HN] at hr3 hW3
    have HR3 := hide hr3
    have H3 := hide hW3
    clear hr3 hown3 hf3 hb3 hG3 hF3 hW3 c0' c1' c2' c4' fz'
    go_wp2_with (at_builtin; refine wpList_app rfl _ _ 37 37 rfl _ _ _ rfl rfl (unhide HR3) ?_; clear HR3)
    go_ret
    exact ⟨rfl, fb, q2, O2, _, unhide H3, (unhide HFA).1, fun g hg => (by rw [← unhide HN]; exact (unhide HFA).2.1 g (by rw [← unhide HN]; exact hg)), (by rw [← unhide HN]; exact (unhide HFA).2.2)⟩
set_option maxHeartbeats 1000000 in
set_option maxRecDepth 100000 in
/-- Log.note. -/
theorem note2 (w : World) (l d m : Nat) (L : LM) (s : DM) (q : DW) (O : Nat → Prop) (sv pv : Value) (ss : List Nat) (x n : Nat) (W : World) (h : WL w W l d m L s q O sv pv) (hs : L.segs = ss ++ [x]) (hl : ss.length < 100) (hp : L.pls.length ≤ 1000000) (hx : x ≤ 10000000) (hn : n ≤ 10000000) :
    Calls Tryz.prog 46 #[.pointer (some ⟨l, 0, none⟩), .int .i64 (n : Nat)] W fun e W' => e = .returned (.tuple #[]) ∧ ∃ pv', WL w W' l d m { L with segs := ss ++ [x + (12 + n)], pls := L.pls ++ [(ss.length, x + 12, n)] } s q O sv pv' ∧ Fr (fun k => k = l ∨ sv.ownBlock = some k ∨ pv.ownBlock = some k) W W' ∧ ∀ g, pv'.ownBlock = some g → pv.ownBlock = some g ∨ W.heap.size ≤ g := by
  have hlen : L.segs.length = ss.length + 1 := by rw [hs]; simp
  have HO := hide (wopen_any l d L sv pv W h.G (by omega))
  rw [show (L.segs.length : Int) - 1 = (ss.length : Nat) by omega] at HO
  obtain ⟨g, sc, rfl, hsc, hc, hcf⟩ := h.G.last hs
  obtain ⟨c0, c1, c2, c3, c4, fz⟩ := h.G.cells
  have f4 := fz 4
  obtain ⟨po, pc, rfl⟩ := own_formX h.G.po
  obtain ⟨ao, cap, w3, hr3, hown3, hf3, hb3⟩ := app_span W.drew _ L.pls ss.length (x + 12) n (h.quiet (Fr.refl _ _).drew).G.po hp
  obtain ⟨hG3, hF3⟩ := (h.quiet (Fr.refl _ _).drew).G.noted (y := x + (12 + n)) hs hown3 hf3 hb3
  have hl3 : w3.heap[l]? = W.heap[l]? := hf3.block l h.G.lt.1 (fun e => h.G.kinds.2 l e rfl)
  have hg3 : w3.heap[g]? = W.heap[g]? := hf3.block g (h.G.lt.2.1 g rfl) (h.G.kinds.1 g rfl).2
  have hgl : g ≠ l := (h.G.kinds.1 g rfl).1
  have e3 : w3.cell? ⟨l, 3, none⟩ = some (.slice (some ⟨g, 0, none⟩) (ss.length + 1) sc) := by rw [← c3]; simp only [World.cell?, hl3]
  have e4 : w3.cell? ⟨l, 4, none⟩ = some (.slice po L.pls.length pc) := by rw [← c4]; simp only [World.cell?, hl3]
  have ef : w3.frozen? ⟨l, 4, none⟩ = false := by rw [← f4]; simp only [World.frozen?, hl3]
  have ec : w3.cell? ⟨g, ss.length, none⟩ = some (.int .i64 (x : Nat)) := by rw [← hc]; simp only [World.cell?, hg3]
  have ecf : w3.frozen? ⟨g, ss.length, none⟩ = false := by rw [← hcf]; simp only [World.frozen?, hg3]
  have hll := h.G.lt.1
  have hgg := h.G.lt.2.1 g rfl
  have hW3 := (h.quiet (Fr.refl _ _).drew).log hG3 hF3 (fun g hg => .inl hg) hb3
  have HR3 := hide (show (Builtin.append_ #[80, 80] 80 #[.slice po L.pls.length pc, .slice (some ⟨W.heap.size, 0, none⟩) 1 1]).run Tryz.prog (W.alloc (.cells #[.int .i64 (ss.length : Nat), .int .i64 ((x : Int) + 12), .int .i64 (n : Nat)] 93)).drew = .ok (.slice ao (L.pls.length + 1) cap) w3 from hr3)
  have hFF := ((Fr.refl (fun k => k = l ∨ (Value.slice (some ⟨g, 0, none⟩) (ss.length + 1) sc).ownBlock = some k ∨ (Value.slice po L.pls.length pc).ownBlock = some k) W).drew).trans hF3 (fun _ _ h => h)
  rw [show ((x + (12 + n) : Nat) : Int) = (x : Int) + (12 + (n : Int)) by omega] at hW3 hFF
  have hPV : ∀ g', (Value.slice ao (L.pls.length + 1) cap).ownBlock = some g' → (Value.slice po L.pls.length pc).ownBlock = some g' ∨ W.heap.size ≤ g' := hb3
  have HFF := hide (And.intro hFF hPV)
  clear hFF hPV
  have H3 := hide hW3
  clear hr3 hown3 hf3 hb3 hG3 hF3 hW3 h hs hlen c0 c1 c2 fz hl3 hg3
  generalize hSL : ss.length = SL at *
  generalize hPL : L.pls.length = PL at *
  clear hSL hPL
  have hNi : (SL : Int) < (SL : Int) + 1 := by omega
  have hw12 : IntKind.i64.wrap ((x : Int) + 12) = (x : Int) + 12 := by rw [IntKind.wrap_i64]; omega
  go_enter Tryz.func46, Tryz.ntmps46
  go_wp2_with (go_at_call 44; refine (unhide HO).mono ?_; rintro e w' ⟨rfl, rfl⟩; clear HO)
  go_region_law (refine step_app rfl (.tmp 11) (.tmp 23) 80 80 rfl _ _ _ (by simp [Act.eval]) (by simp [Act.eval]) (unhide HR3) ?_)
  all_goals
    go_wp2_with fail
    go_end0
    exact ⟨rfl, _, unhide H3, (unhide HFF).1, (unhide HFF).2⟩
set_option maxHeartbeats 2000000 in
set_option maxRecDepth 100000 in
/-- Log.Append, behind makeRoom. -/
theorem wappend2 (w : World) (l d m : Nat) (L L1 : LM) (s : DM) (P : DM → Prop) (q : DW) (O : Nat → Prop) (sv pv y : Value) (ss : List Nat) (x : Nat) (p : List Nat) (W : World) (h : WL w W l d m L s q O sv pv) (hy : Src W y p)
    (HM : Calls Tryz.prog 41 #[.pointer (some ⟨l, 0, none⟩), .int .i64 ((12 + p.length : Nat) : Int)] W fun e W' => e = .returned (.int .i64 0) ∧ ∃ s1 q1 O1 sv1, P s1 ∧ WL w W' l d m L1 s1 q1 O1 sv1 pv ∧ Src W' y p ∧ (∀ k, O1 k → O k ∨ W.heap.size ≤ k) ∧ (∀ g, sv1.ownBlock = some g → sv.ownBlock = some g ∨ W.heap.size ≤ g) ∧ Fr (fun k => O k ∨ k = l ∨ sv.ownBlock = some k ∨ pv.ownBlock = some k) W W')
    (hp : p.length ≤ 1048576) (hpz : p.length + 12 ≤ L.size) (hz : L.size ≤ 1048576) (hs : L1.segs = ss ++ [x]) (hpl : L1.pls = L.pls) (hnm : L1.name = L.name) (hnl : L.name.size ≤ 32) (hl : ss.length < 100) (hlp : L.pls.length ≤ 1000000) (hx : x ≤ 1048576)
    (hPall : ∀ s1, P s1 → s1.Good ∧ Maps.has s1.D (.string (nm (seg L.name ss.length))) = true ∧ s1.used + (p.length + 12) ≤ s1.limit ∧ (s1.F (nm (seg L.name ss.length))).b.length ≤ 1048576 ∧ (s1.F (nm (seg L.name ss.length))).ps.length ≤ 1000000000) :
    Calls Tryz.prog 13 #[.pointer (some ⟨l, 0, none⟩), y] W fun e W' => e = .returned (.tuple #[.int .i64 (L.pls.length : Nat), .int .i64 0]) ∧ ∃ s1 q' O' sv' pv', P s1 ∧ WL w W' l d m { L1 with segs := ss ++ [x + (12 + p.length)], pls := L.pls ++ [(ss.length, x + 12, p.length)] } (s1.app (nm (seg L.name ss.length)) (frame p)) q' O' sv' pv' ∧ (∀ k, O' k → O k ∨ W.heap.size ≤ k) ∧ Fr (fun k => O k ∨ k = l ∨ sv.ownBlock = some k ∨ pv.ownBlock = some k) W W' ∧ (∀ g, sv'.ownBlock = some g → sv.ownBlock = some g ∨ W.heap.size ≤ g) ∧ (∀ g, pv'.ownBlock = some g → pv.ownBlock = some g ∨ W.heap.size ≤ g) := by
  obtain ⟨yo, yc, rfl⟩ := hy.form
  obtain ⟨c0, c1, c2, c3, c4, fz⟩ := h.G.cells
  have HMM := hide HM
  have HA := hide (And.intro hs (And.intro hpl (And.intro hnm hPall)))
  have hsz := seg_size L.name ss.length hl
  have HB := hide (And.intro hp (And.intro hpz (And.intro hz (And.intro hnl (And.intro hl (And.intro hlp (And.intro hx hsz)))))))
  have e12 : (((12 + p.length : Nat)) : Int) = 12 + (p.length : Int) := by omega
  rw [e12] at HMM
  have hlt : ¬ ((L.size : Int) - 12 < (p.length : Int)) := by omega
  clear h hy HM hs hpl hnm hPall hsz hnl hl hlp hx c0 c1 c3 c4 fz e12
  obtain ⟨PN, hPN⟩ : ∃ PN, PN = p.length := ⟨_, rfl⟩
  rw [← hPN] at HMM hlt hp hpz ⊢
  have HPN := hide hPN
  clear hPN
  go_enter Tryz.func13, Tryz.ntmps13
  go_wp2_with fail
  refine (unhide HMM).mono ?_
  rintro e w1 ⟨rfl, s1, q1, O1, sv1, hP1, hW1, hy1, hO1, hsv1, hFr1⟩
  have HP1 := hide hP1
  clear hP1
  have hsz1 := hFr1.size
  obtain ⟨c0, c1, _, _, c4, _⟩ := hW1.G.cells
  have HO : Hid (∀ W', Fr (fun _ => False) w1 W' → Calls Tryz.prog 44 #[.pointer (some ⟨l, 0, none⟩)] W' fun e w' => e = .returned (.int .i64 (ss.length : Nat)) ∧ w' = W') := fun W' hf => by
    obtain ⟨hs, _⟩ := unhide HA
    have hlen : L1.segs.length = ss.length + 1 := by rw [hs]; simp
    have hl := (unhide HB).2.2.2.2.1
    have := wopen_any l d L1 sv1 pv W' (hW1.quiet hf).G (by omega)
    rw [show (L1.segs.length : Int) - 1 = (ss.length : Nat) by omega] at this
    exact this
  have HFi : Hid (∀ W', Fr (fun _ => False) w1 W' → Calls Tryz.prog 43 #[.pointer (some ⟨l, 0, none⟩), .int .i64 (ss.length : Nat)] W' fun e W2 => e = .returned (.string (seg L.name ss.length)) ∧ Fr (fun _ => False) w1 W2) := fun W' hf => by
    have hl := (unhide HB).2.2.2.2.1
    have hnl := (unhide HB).2.2.2.1
    exact (file_any l ss.length L.name W' hl (by rw [← (unhide HA).2.2.1]; exact (hW1.quiet hf).G.cells.2.1) (by omega)).mono (fun e W2 h => ⟨h.1, hf.trans h.2 (fun _ _ h => h)⟩)
  have HFr : Hid (∀ W', Fr (fun _ => False) w1 W' → Calls Tryz.prog 45 #[.slice yo PN yc] W' fun e W2 => ∃ v, e = .returned v ∧ W2.ownsRow w1.heap.size 5 1 v (frame p).length (cellsOf (frame p)) ∧ Fr (fun _ => False) w1 W2) := fun W' hf => by
    refine (framed_any (.slice yo PN yc) p W' (hy1.fr0 hf) (unhide HB).1).mono ?_
    rintro e W2 ⟨v, rfl, h1, h2⟩
    exact ⟨v, rfl, own_mono h1 hf.size, hf.trans h2 (fun _ _ h => h)⟩
  have HAp : Hid (∀ W' v, Fr (fun _ => False) w1 W' → W'.ownsRow w1.heap.size 5 1 v (frame p).length (cellsOf (frame p)) → Calls Tryz.prog 42 #[.pointer (some ⟨d, 0, none⟩), .string (seg L.name ss.length), v] W' fun e W2 => e = .returned (.int .i64 0) ∧ ∃ q2 O2, WL w W2 l d m L1 (s1.app (nm (seg L.name ss.length)) (frame p)) q2 O2 sv1 pv ∧ (∀ k, O2 k → O k ∨ W.heap.size ≤ k) ∧ Fr (fun k => O k ∨ k = l ∨ sv.ownBlock = some k ∨ pv.ownBlock = some k) W W2) := fun W' v hf hv => by
    obtain ⟨hs, hpl, hnm, hPall⟩ := unhide HA
    obtain ⟨hg, hh, hroom, hb, hps⟩ := hPall s1 (unhide HP1)
    obtain ⟨hp, hpz, hz, hnl, hl, hlp, hx, hsz⟩ := unhide HB
    have h1 := hW1.quiet hf
    obtain ⟨vo, vc, rfl⟩ := own_form hv
    have hcap : (frame p).length ≤ vc := by
      rcases hv.2 with ⟨_, e2⟩ | ⟨g, c, cur, e2, _, _, hc, _⟩
      · omega
      · simp only [Value.slice.injEq] at e2; omega
    have hc0 : s1.count (frame p).length = ({ s1 with writes := s1.writes + 1 }, (frame p).length) := by simp only [DM.count, hg.left, if_pos]
    refine (append_ok d m s1 q1 O1 (seg L.name ss.length) _ (frame p) W' h1.D hg.off (by simp only [maxLen]; omega) hh hg.full (own_src hv) (fun g o k c e hO => by cases e; have h2 := (hv.lt g rfl).1; have h3 := hW1.D.lt g hO; omega) (fun xo k c e => by cases e; exact hcap) (by rw [frame_len]; exact hroom) hg.lim hg.wr (by rw [hg.left]; decide) (by rw [hg.left]; decide) hg.tear0 hg.tear hb hps).mono ?_
    rintro e W2 ⟨rfl, q2, O2, hD, hf2, hO⟩
    refine ⟨?_, q2, O2, h1.disk hD hf2 hO, fun k hk => (hO k hk).elim (hO1 k) (fun h => .inr (Nat.le_trans hsz1 (Nat.le_trans hf.size h))), (hFr1.trans hf (fun _ _ h => h.elim)).trans hf2 (fun k hk h => (hO1 k h).elim .inl (fun h => by omega))⟩
    rw [hc0]
    simp [DM.code, hg.off]
  have HK : Hid (∀ W', Fr (fun _ => False) w1 W' → W'.cell? ⟨l, 0, none⟩ = some (.pointer (some ⟨d, 0, none⟩))) := fun W' hf => (hW1.quiet hf).G.cells.1
  have HSV1 := hide hsv1
  clear hW1 hy1 c1 c4 hO1 hsz1 hsv1 hFr1
  obtain ⟨SN, hSN⟩ : ∃ SN, SN = seg L.name ss.length := ⟨_, rfl⟩
  have HSN := hide hSN
  rw [← hSN] at HFi HAp
  clear hSN
  go_wp2_with fail
  go_region_held3 (fun w' => w'.cell? ⟨l, 0, none⟩ = some (.pointer (some ⟨d, 0, none⟩)))
    (first | exact (unhide HK) _ (Fr.refl _ _).drew | exact (unhide HK) _ hf2 | exact (unhide HK) _ hf3 | exact (unhide HW4).1.G.cells.1)
    (first
      | (go_at_call 44; refine ((unhide HO) _ (Fr.refl _ _).drew).mono ?_; rintro e w' ⟨rfl, rfl⟩; clear HO)
      | (go_at_call 43; refine ((unhide HFi) _ (Fr.refl _ _).drew).mono ?_; rintro e w2 ⟨rfl, hf2⟩; clear HFi)
      | (go_at_call 45; refine ((unhide HFr) _ hf2).mono ?_; rintro e w3 ⟨v3, rfl, hv3, hf3⟩; clear HFr)
      | (go_at_call 42; refine ((unhide HAp) _ _ hf3 hv3).mono ?_; rintro e w4 ⟨rfl, q4, O4, hW4, hO4⟩; clear HAp; have HW4 := hide (And.intro hW4 hO4); clear hW4 hO4))
  all_goals
    rw [unhide HSN] at HW4
    obtain ⟨hs, hpl, hnm, _⟩ := unhide HA
    obtain ⟨hp', hpz', hz', hnl, hl, hlp, hx, hsz⟩ := unhide HB
    have HN := hide (note2 w l d m L1 (s1.app (nm (seg L.name ss.length)) (frame p)) q4 O4 sv1 pv ss x p.length w4 (unhide HW4).1 hs hl (by rw [hpl]; exact hlp) (by omega) (by omega))
    rw [← unhide HPN, hpl] at HN
    clear hs hpl hnm hp' hpz' hz' hnl hl hx hsz
    go_wp2_with fail
    refine (unhide HN).mono ?_
    rintro e w5 ⟨rfl, pv5, hW5, hf5, hpv5⟩
    have hPV := fun g (hg : pv5.ownBlock = some g) => (hpv5 g hg).imp id (Nat.le_trans (unhide HW4).2.2.size)
    clear hpv5
    have hFA := (unhide HW4).2.2.trans hf5 (fun k hk h => by
      rcases h with h | h | h
      · exact .inr (.inl h)
      · rcases (unhide HSV1) k h with h | h
        · exact .inr (.inr (.inl h))
        · omega
      · exact .inr (.inr (.inr h)))
    have HFA := hide (And.intro hFA hPV)
    clear hFA hf5 hPV
    obtain ⟨po, pc, rfl⟩ := own_formX hW5.G.po
    obtain ⟨_, _, _, _, c4', _⟩ := hW5.G.cells
    have el : (L.pls ++ [(ss.length, x + 12, PN)]).length = L.pls.length + 1 := by simp
    rw [el] at c4' hW5
    have H5 := hide hW5
    clear hW5 el HN
    go_wp2_with fail
    go_ret2
    exact ⟨by go_num, s1, _, _, _, _, unhide HP1, unhide H5, (unhide HW4).2.1, (unhide HFA).1, unhide HSV1, fun g hg => (unhide HFA).2 g (by rw [show (L.pls ++ [(ss.length, x + 12, PN)]).length = L.pls.length + 1 by simp]; exact hg)⟩
end Go.Proofs.YtmmaddlphclpnaaGreatDoor

namespace Go.Proofs.YtmmaddlphclpnaaGreatDoor
open Go.RowKit Go.ChangeShapes Go.WideShapes Go.Maps Go.Sort

theorem scells_at (l : List (Nat × Nat × Nat)) (k : Nat) (p : Nat × Nat × Nat) (h : l[k]? = some p) : (scells l)[k * 3]? = some (.int .i64 (p.1 : Nat)) ∧ (scells l)[k * 3 + 1]? = some (.int .i64 (p.2.1 : Nat)) ∧ (scells l)[k * 3 + 2]? = some (.int .i64 (p.2.2 : Nat)) := by
  induction l generalizing k with
  | nil => simp at h
  | cons q r ih =>
    have e : scells (q :: r) = [.int .i64 (q.1 : Nat), .int .i64 (q.2.1 : Nat), .int .i64 (q.2.2 : Nat)] ++ scells r := rfl
    rw [e]
    cases k with
    | zero =>
      simp at h
      subst h
      simp
    | succ k =>
      have h2 := ih k (by simpa using h)
      rw [show (k + 1) * 3 = k * 3 + 3 by omega]
      refine ⟨?_, ?_, ?_⟩
      · rw [List.getElem?_append_right (by simp)]
        simpa using h2.1
      · rw [List.getElem?_append_right (by simp only [List.length_cons, List.length_nil]; omega), show k * 3 + 3 + 1 - [Value.int .i64 (q.1 : Nat), .int .i64 (q.2.1 : Nat), .int .i64 (q.2.2 : Nat)].length = k * 3 + 1 by simp only [List.length_cons, List.length_nil]; omega]
        exact h2.2.1
      · rw [List.getElem?_append_right (by simp only [List.length_cons, List.length_nil]; omega), show k * 3 + 3 + 2 - [Value.int .i64 (q.1 : Nat), .int .i64 (q.2.1 : Nat), .int .i64 (q.2.2 : Nat)].length = k * 3 + 2 by simp only [List.length_cons, List.length_nil]; omega]
        exact h2.2.2
/-- Where a payload is told. -/
theorem LgAt.pay {w : World} {l d : Nat} {L : LM} {sv pv : Value} {k a b c : Nat} (h : LgAt w l d L sv pv) (hk : L.pls[k]? = some (a, b, c)) : ∃ g pc, pv = .slice (some ⟨g, 0, none⟩) L.pls.length pc ∧ k < L.pls.length ∧ w.cell? ⟨g, k * 3, none⟩ = some (.int .i64 (a : Nat)) ∧ w.cell? ⟨g, k * 3 + 1, none⟩ = some (.int .i64 (b : Nat)) ∧ w.cell? ⟨g, k * 3 + 2, none⟩ = some (.int .i64 (c : Nat)) := by
  have hkl : k < L.pls.length := (List.getElem?_eq_some_iff.1 hk).1
  have hpo := h.po
  rcases hpo.2 with ⟨e1, e2⟩ | ⟨g, pc, cur, e1, _⟩
  · omega
  · subst e1
    obtain ⟨h1, h2, h3⟩ := scells_at L.pls k _ hk
    exact ⟨g, pc, rfl, hkl, (hpo.cellAt (k * 3) (by omega)).trans h1, (hpo.cellAt (k * 3 + 1) (by omega)).trans h2, (hpo.cellAt (k * 3 + 2) (by omega)).trans h3⟩
set_option maxHeartbeats 1000000 in
set_option maxRecDepth 100000 in
/-- Log.At of a place that is there. -/
theorem wat_ok (w : World) (l d m : Nat) (L : LM) (s : DM) (q : DW) (O : Nat → Prop) (sv pv : Value) (k a b c : Nat) (W : World) (h : WL w W l d m L s q O sv pv) (hk : L.pls[k]? = some (a, b, c)) (hnl : L.name.size ≤ 32) (ha : a < 100) (ho : s.off = false) (hh : Maps.has s.D (.string (nm (seg L.name a))) = true) (hb : (s.F (nm (seg L.name a))).b.length ≤ 1048576) (hbc : b + c ≤ (s.F (nm (seg L.name a))).b.length) :
    Calls Tryz.prog 20 #[.pointer (some ⟨l, 0, none⟩), .int .i64 (k : Nat)] W fun e W' => ∃ v, e = .returned (.tuple #[v, .int .i64 0]) ∧ W'.ownsRow W.heap.size 5 1 v c (cellsOf (((s.F (nm (seg L.name a))).b.drop b).take c)) ∧ Fr (fun _ => False) W W' := by
  obtain ⟨g, pc, rfl, hkl, e0, e1, e2⟩ := h.G.pay hk
  obtain ⟨c0, c1, c2, c3, c4, fz⟩ := h.G.cells
  have hsz := seg_size L.name a ha
  have HFi : Hid (∀ W', Fr (fun _ => False) W W' → Calls Tryz.prog 43 #[.pointer (some ⟨l, 0, none⟩), .int .i64 (a : Nat)] W' fun e W2 => e = .returned (.string (seg L.name a)) ∧ Fr (fun _ => False) W' W2) := fun W' hf =>
    file_any l a L.name W' ha (h.quiet hf).G.cells.2.1 (by omega)
  have HRd : Hid (∀ W', Fr (fun _ => False) W W' → Calls Tryz.prog 16 #[.pointer (some ⟨d, 0, none⟩), .string (seg L.name a), .int .i64 (b : Nat), .int .i64 (c : Nat)] W' fun e W2 => ∃ v, e = .returned (.tuple #[v, .int .i64 0]) ∧ W2.ownsRow W.heap.size 5 1 v c (cellsOf (((s.F (nm (seg L.name a))).b.drop b).take c)) ∧ Fr (fun _ => False) W W2 ∧ Fr (fun _ => False) W' W2) := fun W' hf => by
    refine (read_at d m b c s q O (seg L.name a) W' (h.quiet hf).D ho (by simp only [maxLen]; omega) hh hb hbc).mono ?_
    rintro e W2 ⟨v, rfl, h1, h2⟩
    exact ⟨v, rfl, own_mono h1 hf.size, hf.trans h2 (fun _ _ h => h), h2⟩
  have HK : Hid (∀ W', Fr (fun _ => False) W W' → W'.cell? ⟨l, 0, none⟩ = some (.pointer (some ⟨d, 0, none⟩))) := fun W' hf => (h.quiet hf).G.cells.1
  obtain ⟨X, hX⟩ : ∃ X, X = cellsOf (((s.F (nm (seg L.name a))).b.drop b).take c) := ⟨_, rfl⟩
  rw [← hX] at HRd ⊢
  obtain ⟨SN, hSN⟩ : ∃ SN, SN = seg L.name a := ⟨_, rfl⟩
  rw [← hSN] at HFi HRd
  obtain ⟨PL, hPL⟩ : ∃ PL, PL = L.pls.length := ⟨_, rfl⟩
  rw [← hPL] at c4 hkl
  clear h hk hX hSN hPL hnl ho hh hb hbc hsz c1 c2 c3 fz
  have hkl' : (k : Int) < (PL : Int) := by omega
  have hkl2 : ¬ ((PL : Int) ≤ (k : Int)) := by omega
  go_enter Tryz.func20, Tryz.ntmps20
  go_wp2_with fail
  obtain ⟨W1, hW1⟩ : ∃ W1, W1 = W.alloc (.cells #[.int .i64 (a : Nat), .int .i64 (b : Nat), .int .i64 (c : Nat)] 93) := ⟨_, rfl⟩
  have hf1 : Fr (fun _ => False) W W1 := by rw [hW1]; exact box1 W _
  have HBx : Hid (∀ W', Fr (fun _ => False) W1 W' → W'.cell? ⟨l, 0, none⟩ = some (.pointer (some ⟨d, 0, none⟩)) ∧ W'.cell? ⟨W.heap.size, 0, none⟩ = some (.int .i64 (a : Nat)) ∧ W'.cell? ⟨W.heap.size, 1, none⟩ = some (.int .i64 (b : Nat)) ∧ W'.cell? ⟨W.heap.size, 2, none⟩ = some (.int .i64 (c : Nat))) := fun W' hf => by
    have hb : W'.heap[W.heap.size]? = some (.cells #[.int .i64 (a : Nat), .int .i64 (b : Nat), .int .i64 (c : Nat)] 93) := by
      have h0 : W1.heap[W.heap.size]? = some (.cells #[.int .i64 (a : Nat), .int .i64 (b : Nat), .int .i64 (c : Nat)] 93) := by rw [hW1]; exact heap_alloc_new W _
      rw [hf.block _ (lt_of_block h0) (fun h => h)]
      exact h0
    refine ⟨(unhide HK) _ (hf1.trans hf (fun _ _ h => h)), ?_, ?_, ?_⟩ <;> simp [World.cell?, hb]
  have HF1 := hide hf1
  rw [← hW1]
  clear hW1 hf1 c0 c4 e0 e1 e2
  go_region_held3 (fun w' => w'.cell? ⟨l, 0, none⟩ = some (.pointer (some ⟨d, 0, none⟩)) ∧ w'.cell? ⟨W.heap.size, 0, none⟩ = some (.int .i64 (a : Nat)) ∧ w'.cell? ⟨W.heap.size, 1, none⟩ = some (.int .i64 (b : Nat)) ∧ w'.cell? ⟨W.heap.size, 2, none⟩ = some (.int .i64 (c : Nat)))
    (first | exact (unhide HBx) _ (Fr.refl _ _).drew | exact (unhide HBx) _ hf2 | exact (unhide HBx) _ hf3)
    (first
      | (go_at_call 43; refine ((unhide HFi) _ (unhide HF1).drew).mono ?_; rintro e w2 ⟨rfl, hf2'⟩; clear HFi; have hf2 : Fr (fun _ => False) W1 w2 := (Fr.refl _ _).drew.trans hf2' (fun _ _ h => h))
      | (go_at_call 16; refine ((unhide HRd) _ ((unhide HF1).trans hf2 (fun _ _ h => h))).mono ?_; rintro e w3 ⟨v3, rfl, hv3, hfW, hf3'⟩; clear HRd; have hf3 : Fr (fun _ => False) W1 w3 := hf2.trans hf3' (fun _ _ h => h); have H3 := hide (And.intro hv3 hfW); clear hv3 hfW))
  all_goals
    go_wp2_with fail
    go_ret2
    exact ⟨_, rfl, (unhide H3).1, (unhide H3).2⟩
end Go.Proofs.YtmmaddlphclpnaaGreatDoor

namespace Go.Proofs.YtmmaddlphclpnaaGreatDoor
open Go.RowKit Go.ChangeShapes Go.WideShapes Go.Maps Go.Sort

set_option maxHeartbeats 1000000 in
set_option maxRecDepth 100000 in
/-- Log.load where there is no such segment. -/
theorem load_none (w : World) (l d m : Nat) (L : LM) (s : DM) (q : DW) (O : Nat → Prop) (sv pv : Value) (i : Nat) (W : World) (h : WL w W l d m L s q O sv pv) (hi : i < 100) (hnl : L.name.size ≤ 32) (ho : s.off = false) (hh : Maps.has s.D (.string (nm (seg L.name i))) = false) :
    Calls Tryz.prog 101 #[.pointer (some ⟨l, 0, none⟩), .int .i64 (i : Nat)] W fun e W' => e = .returned (.tuple #[.slice none 0 0, .bool false]) ∧ Fr (fun _ => False) W W' := by
  have hsz := seg_size L.name i hi
  have HFi := hide (file_any l i L.name W hi h.G.cells.2.1 (by omega))
  have HZ : Hid (∀ W', Fr (fun _ => False) W W' → Calls Tryz.prog 36 #[.pointer (some ⟨d, 0, none⟩), .string (seg L.name i)] W' fun e W2 => e = .returned (.tuple #[.int .i64 0, .int .i64 15]) ∧ W2 = W') := fun W' hf =>
    size_no d m s q O (seg L.name i) 15 W' (h.quiet hf).D (by simp only [maxLen]; omega) (.inr ⟨ho, hh, rfl⟩)
  have HK : Hid (∀ W', Fr (fun _ => False) W W' → W'.cell? ⟨l, 0, none⟩ = some (.pointer (some ⟨d, 0, none⟩))) := fun W' hf => (h.quiet hf).G.cells.1
  obtain ⟨SN, hSN⟩ : ∃ SN, SN = seg L.name i := ⟨_, rfl⟩
  rw [← hSN] at HFi HZ
  clear h hSN hsz hnl ho hh
  go_enter Tryz.func101, Tryz.ntmps101
  go_wp2_with fail
  refine (unhide HFi).mono ?_
  rintro e w1 ⟨rfl, hf1⟩
  have c0 := (unhide HK) _ hf1
  have HF1 := hide hf1
  clear hf1
  go_wp2_with (go_at_call 36; refine ((unhide HZ) _ (unhide HF1)).mono ?_; rintro e w2 ⟨rfl, rfl⟩)
  go_ret2
  exact ⟨rfl, unhide HF1⟩
set_option maxHeartbeats 1000000 in
set_option maxRecDepth 100000 in
/-- Log.load of a segment that is there. -/
theorem load_at (w : World) (l d m : Nat) (L : LM) (s : DM) (q : DW) (O : Nat → Prop) (sv pv : Value) (i : Nat) (W : World) (h : WL w W l d m L s q O sv pv) (hi : i < 100) (hnl : L.name.size ≤ 32) (ho : s.off = false) (hh : Maps.has s.D (.string (nm (seg L.name i))) = true) (hb : (s.F (nm (seg L.name i))).b.length ≤ 1048576) :
    Calls Tryz.prog 101 #[.pointer (some ⟨l, 0, none⟩), .int .i64 (i : Nat)] W fun e W' => ∃ v, e = .returned (.tuple #[v, .bool true]) ∧ W'.ownsRow W.heap.size 5 1 v (s.F (nm (seg L.name i))).b.length (cellsOf (s.F (nm (seg L.name i))).b) ∧ Fr (fun _ => False) W W' := by
  have hsz := seg_size L.name i hi
  have HFi := hide (file_any l i L.name W hi h.G.cells.2.1 (by omega))
  have HZ : Hid (∀ W', Fr (fun _ => False) W W' → Calls Tryz.prog 36 #[.pointer (some ⟨d, 0, none⟩), .string (seg L.name i)] W' fun e W2 => e = .returned (.tuple #[.int .i64 ((s.F (nm (seg L.name i))).b.length : Nat), .int .i64 0]) ∧ W2 = W') := fun W' hf =>
    size_at d m s q O (seg L.name i) W' (h.quiet hf).D ho (by simp only [maxLen]; omega) hh
  have HR : Hid (∀ W', Fr (fun _ => False) W W' → Calls Tryz.prog 16 #[.pointer (some ⟨d, 0, none⟩), .string (seg L.name i), .int .i64 0, .int .i64 ((s.F (nm (seg L.name i))).b.length : Nat)] W' fun e W2 => ∃ v, e = .returned (.tuple #[v, .int .i64 0]) ∧ W2.ownsRow W.heap.size 5 1 v (s.F (nm (seg L.name i))).b.length (cellsOf (s.F (nm (seg L.name i))).b) ∧ Fr (fun _ => False) W W2) := fun W' hf => by
    refine (read0_at d m (s.F (nm (seg L.name i))).b.length s q O (seg L.name i) W' (h.quiet hf).D ho (by simp only [maxLen]; omega) hh hb (Nat.le_refl _)).mono ?_
    rintro e W2 ⟨v, rfl, h1, h2⟩
    rw [List.take_length] at h1
    exact ⟨v, rfl, own_mono h1 hf.size, hf.trans h2 (fun _ _ h => h)⟩
  have HK : Hid (∀ W', Fr (fun _ => False) W W' → W'.cell? ⟨l, 0, none⟩ = some (.pointer (some ⟨d, 0, none⟩))) := fun W' hf => (h.quiet hf).G.cells.1
  obtain ⟨BL, hBL⟩ : ∃ BL, BL = (s.F (nm (seg L.name i))).b.length := ⟨_, rfl⟩
  obtain ⟨X, hX⟩ : ∃ X, X = cellsOf (s.F (nm (seg L.name i))).b := ⟨_, rfl⟩
  rw [← hBL, ← hX] at HR ⊢
  rw [← hBL] at HZ
  obtain ⟨SN, hSN⟩ : ∃ SN, SN = seg L.name i := ⟨_, rfl⟩
  rw [← hSN] at HFi HZ HR
  clear h hSN hsz hnl ho hh hb hBL hX
  go_enter Tryz.func101, Tryz.ntmps101
  go_wp2_with fail
  refine (unhide HFi).mono ?_
  rintro e w1 ⟨rfl, hf1⟩
  have c0 := (unhide HK) _ hf1
  have HF1 := hide hf1
  clear hf1
  go_wp2_with (first
    | (go_at_call 36; refine ((unhide HZ) _ (unhide HF1)).mono ?_; rintro e w2 ⟨rfl, rfl⟩; clear HZ)
    | (go_at_call 16; refine ((unhide HR) _ (unhide HF1)).mono ?_; rintro e w3 ⟨v3, rfl, hv3, hf3⟩; clear HR; have H3 := hide (And.intro hv3 hf3); clear hv3 hf3))
  go_ret2
  exact ⟨v3, rfl, (unhide H3).1, (unhide H3).2⟩
set_option maxHeartbeats 1000000 in
set_option maxRecDepth 100000 in
/-- Log.scan where there is no segment. -/
theorem scan_none (w : World) (l d m : Nat) (L : LM) (s : DM) (q : DW) (O : Nat → Prop) (sv pv : Value) (W : World) (h : WL w W l d m L s q O sv pv) (hs : L.segs = []) (hnl : L.name.size ≤ 32) (ho : s.off = false) (hh : Maps.has s.D (.string (nm (seg L.name 0))) = false) :
    Calls Tryz.prog 73 #[.pointer (some ⟨l, 0, none⟩)] W fun e W' => e = .returned (.bool true) ∧ Fr (fun _ => False) W W' := by
  have HL := hide (load_none w l d m L s q O sv pv 0 W h (by decide) hnl ho hh)
  obtain ⟨c0, c1, c2, c3, c4, fz⟩ := h.G.cells
  obtain ⟨so, sc, rfl⟩ := own_formX h.G.so
  rw [hs] at c3
  have c3' : W.cell? ⟨l, 3, none⟩ = some (.slice so 0 sc) := c3
  have HL' : Hid (Calls Tryz.prog 101 #[.pointer (some ⟨l, 0, none⟩), .int .i64 0] W fun e W' => e = .returned (.tuple #[.slice none 0 0, .bool false]) ∧ Fr (fun _ => False) W W') := HL
  clear c3 HL
  clear h hs hnl ho hh c0 c1 c2 c4 fz
  go_enter Tryz.func73, Tryz.ntmps73
  go_wp2_with fail
  go_step3
  go_wp2_with fail
  go_step3
  go_wp2_with fail
  refine (unhide HL').mono ?_
  rintro e w1 ⟨rfl, hf1⟩
  have HF1 := hide hf1
  clear hf1
  go_wp2_with fail
  rw [Exit.noGoto_ret]
  go_ret
  exact ⟨rfl, unhide HF1⟩
end Go.Proofs.YtmmaddlphclpnaaGreatDoor

namespace Go.Proofs.YtmmaddlphclpnaaGreatDoor
open Go.RowKit Go.ChangeShapes Go.WideShapes Go.Maps Go.Sort

/-- A disk in memory that was made since w. -/
structure DS (w W : World) (d m : Nat) (s : DM) (q : DW) (O : Nat → Prop) : Prop where
  D : DkAt W d m s q O
  fr : Fr (fun _ => False) w W
  o : ∀ k, O k → w.heap.size ≤ k
theorem DS.step {w W W' : World} {d m : Nat} {s s' : DM} {q q' : DW} {O O' : Nat → Prop} (h : DS w W d m s q O) (hD : DkAt W' d m s' q' O') (hf : Fr O W W') (hO : ∀ k, O' k → O k ∨ W.heap.size ≤ k) : DS w W' d m s' q' O' :=
  ⟨hD, h.fr.absorb hf h.o, fun k hk => (hO k hk).elim (h.o k) (Nat.le_trans h.fr.size)⟩
theorem DS.quiet {w W W' : World} {d m : Nat} {s : DM} {q : DW} {O : Nat → Prop} (h : DS w W d m s q O) (hf : Fr (fun _ => False) W W') : DS w W' d m s q O :=
  ⟨h.D.fr hf (fun _ _ h => h), h.fr.trans hf (fun _ _ h => h), h.o⟩
theorem DS.upd {w W W' : World} {d m : Nat} {s s' : DM} {q : DW} {O : Nat → Prop} (h : DS w W d m s q O) (hD : DkAt W' d m s' q O) (hf : Fr (fun k => k = d) W W') : DS w W' d m s' q O :=
  ⟨hD, h.fr.absorb hf (fun k e => by rw [e]; exact h.o _ h.D.od), h.o⟩
def Zr (n : Nat) : List Nat := List.replicate n 0
theorem made_cells (n : Nat) : (madeCells #[Value.int .u8 0] n).toList = cellsOf (Zr n) := by
  apply List.ext_getElem?
  intro i
  by_cases hi : i < n
  · simp [madeCells, cellsOf, Zr, B, hi, Nat.mod_one]
  · simp [madeCells, cellsOf, Zr, hi]
/-- Append of n zeros, just made. -/
theorem DS.zeros {w W : World} {d m : Nat} {s : DM} {q : DW} {O : Nat → Prop} (h : DS w W d m s q O) (name : ByteArray) (n : Nat) (ho : s.off = false) (hn : name.size ≤ maxLen) (hh : Maps.has s.D (.string (nm name)) = true) (hfu : s.full = false) (hroom : s.used + n ≤ s.limit) (hlim : s.limit ≤ 1048576) (hw : s.writes < 1000000000) (hl0 : 0 ≤ s.left) (hl : s.left < 9223372036854775808) (ht0 : 0 ≤ s.tear) (ht : s.tear < 9223372036854775808) (hb : (s.F (nm name)).b.length ≤ 1048576) (hp : (s.F (nm name)).ps.length ≤ 1000000000) :
    Calls Tryz.prog 42 #[.pointer (some ⟨d, 0, none⟩), .string name, .slice (some ⟨W.heap.size, 0, none⟩) n n] (W.alloc (.cells (madeCells #[.int .u8 0] n) 5)) fun e W' => e = .returned (.int .i64 (s.count n).1.code) ∧ ∃ q' O', DS w W' d m (s.app (nm name) (Zr n)) q' O' := by
  have hz : (Zr n).length = n := List.length_replicate
  have hbx := box1 W (.cells (madeCells #[.int .u8 0] n) 5)
  have h1 := h.quiet hbx
  have hsrc : Src (W.alloc (.cells (madeCells #[.int .u8 0] n) 5)) (.slice (some ⟨W.heap.size, 0, none⟩) n n) (Zr n) := by
    have := lit_srcW W (Zr n) (madeCells #[.int .u8 0] n) n (made_cells n)
    rw [hz] at this
    exact this
  have hc := append_ok d m s q O name _ (Zr n) _ h1.D ho hn hh hfu hsrc (fun g o k c e hO => by cases e; exact Nat.lt_irrefl _ (h.D.lt _ hO)) (fun xo k c e => by cases e; exact Nat.le_refl _) (by rw [hz]; exact hroom) hlim hw hl0 hl ht0 ht hb hp
  rw [hz] at hc
  refine hc.mono ?_
  rintro e W' ⟨rfl, q', O', hD, hf, hO⟩
  exact ⟨rfl, q', O', h1.step hD hf hO⟩
/-- DiskKnown's files. -/
def KF (A B : FM) : List UInt8 → FM := fun k => if k = [97] then A else if k = [98] then B else ⟨[], 0, []⟩
def K2 (u wr : Nat) (off full : Bool) (left tear : Int) (D : DataW Unit) (A B : FM) : DM := ⟨20, u, wr, off, full, left, tear, D, KF A B⟩
def f0 : FM := ⟨[], 0, []⟩
theorem KF_a (A B X : FM) : (fun k => if k = [97] then X else KF A B k) = KF X B := by
  funext k
  simp only [KF]
  split <;> rfl
theorem KF_b (A B X : FM) : (fun k => if k = [98] then X else KF A B k) = KF A X := by
  funext k
  simp only [KF]
  by_cases h : k = [97]
  · subst h; rfl
  · rw [if_neg h]
    by_cases h2 : k = [98]
    · rw [if_pos h2, if_neg h, if_pos h2]
    · rw [if_neg h2, if_neg h2, if_neg h, if_neg h2]
theorem KF_0 : (fun _ => f0) = KF f0 f0 := by
  funext k
  simp only [KF, f0]
  split
  · rfl
  · split <;> rfl
def Da (fa : Nat) : DataW Unit := .map [(.string [97], .lit (.int .i64 (fa : Nat)))]
def Db (fb : Nat) : DataW Unit := .map [(.string [98], .lit (.int .i64 (fb : Nat)))]
def Dab (fa fb : Nat) : DataW Unit := .map [(.string [97], .lit (.int .i64 (fa : Nat))), (.string [98], .lit (.int .i64 (fb : Nat)))]
theorem K_new : DM.new 20 = K2 0 0 false false 0 0 (.map []) f0 f0 := by
  simp only [DM.new, K2]
  congr 1
  exact KF_0
theorem K_made_a (fa : Nat) : (K2 0 0 false false 0 0 (.map []) f0 f0).made [97] fa = K2 0 0 false false 0 0 (Da fa) f0 f0 := by
  simp only [DM.made, K2]
  congr 1
  exact KF_a f0 f0 f0
theorem K_made_b (u wr fa fb : Nat) (A : FM) : (K2 u wr false false 0 0 (Da fa) A f0).made [98] fb = K2 u wr false false 0 0 (Dab fa fb) A f0 := by
  simp only [DM.made, K2]
  congr 1
  exact KF_b A f0 f0
theorem K_app_a (u wr : Nat) (full : Bool) (tear : Int) (D : DataW Unit) (A B : FM) (l : List Nat) : (K2 u wr false full 0 tear D A B).app [97] l = K2 (u + l.length) (wr + 1) false full 0 tear D (A.put (wr + 1) l) B := by
  simp only [DM.app, DM.count, K2, if_pos, List.take_length]
  congr 1
  exact KF_a A B _
theorem K_app_b (u wr : Nat) (full : Bool) (tear : Int) (D : DataW Unit) (A B : FM) (l : List Nat) : (K2 u wr false full 0 tear D A B).app [98] l = K2 (u + l.length) (wr + 1) false full 0 tear D A (B.put (wr + 1) l) := by
  simp only [DM.app, DM.count, K2, if_pos, List.take_length]
  congr 1
  exact KF_b A B _
theorem K_app_a2 (u wr : Nat) (D : DataW Unit) (A B : FM) (l : List Nat) : (K2 u wr false false 2 3 D A B).app [97] l = K2 (u + l.length) (wr + 1) false false 1 3 D (A.put (wr + 1) l) B := by
  have e : ∀ n, (K2 u wr false false 2 3 D A B).count n = (K2 u (wr + 1) false false 1 3 D A B, n) := fun n => rfl
  simp only [DM.app, e, List.take_length]
  simp only [K2]
  congr 1
  exact KF_a A B _
theorem K_app_b1 (u wr : Nat) (D : DataW Unit) (A B : FM) : (K2 u wr false false 1 3 D A B).app [98] (Zr 5) = K2 (u + 3) (wr + 1) true false 0 3 D A (B.put (wr + 1) (Zr 3)) := by
  have e : (K2 u wr false false 1 3 D A B).count 5 = (K2 u (wr + 1) true false 0 3 D A B, 3) := rfl
  simp only [DM.app, show (Zr 5).length = 5 from rfl, e]
  simp only [K2]
  congr 1
  exact KF_b A B _
theorem K_syn_a (u wr : Nat) (D : DataW Unit) (A B : FM) : { K2 u wr false false 0 0 D A B with F := fun k => if k = [97] then ((K2 u wr false false 0 0 D A B).F [97]).synced else (K2 u wr false false 0 0 D A B).F k } = K2 u wr false false 0 0 D A.synced B := by
  simp only [K2]
  congr 1
  exact KF_a A B _
theorem K_turn_b (u wr : Nat) (D : DataW Unit) (A B : FM) (a k : Nat) : (K2 u wr false false 0 0 D A B).turned [98] a k = K2 u wr false false 0 0 D A (B.turn a k) := by
  simp only [DM.turned, K2]
  congr 1
  exact KF_b A B _
theorem KF_len (A B : FM) (n : Nat) (hA : A.b.length ≤ n ∧ A.safe ≤ A.b.length) (hB : B.b.length ≤ n ∧ B.safe ≤ B.b.length) (k : List UInt8) : (KF A B k).b.length ≤ n ∧ (KF A B k).safe ≤ (KF A B k).b.length := by
  simp only [KF]
  split
  · exact hA
  · split
    · exact hB
    · exact ⟨Nat.zero_le _, Nat.le_refl _⟩
/-- Pending. -/
theorem DS.pend2 {w W : World} {d m u wr fa fb : Nat} {off full : Bool} {left tear : Int} {A B : FM} {q : DW} {O : Nat → Prop} (h : DS w W d m (K2 u wr off full left tear (Dab fa fb) A B) q O) (hA : A.b.length ≤ 1000 ∧ A.safe ≤ A.b.length) (hB : B.b.length ≤ 1000 ∧ B.safe ≤ B.b.length) :
    Calls Tryz.prog 35 #[.pointer (some ⟨d, 0, none⟩)] W fun e W' => e = .returned (.int .i64 (((A.b.length - A.safe) + (B.b.length - B.safe) : Nat) : Int)) ∧ DS w W' d m (K2 u wr off full left tear (Dab fa fb) A B) q O := by
  have hk := KF_len A B 1000 hA hB
  refine (pending_any d m _ q O W h.D (fun x => ?_) (show (2 : Nat) ≤ 256 by decide) (fun x => ?_)).mono ?_
  · have := hk x
    simp only [DM.pd, K2]
    exact ⟨by omega, by omega⟩
  · have := hk x
    simp only [K2]
    exact ⟨by omega, by omega⟩
  · rintro e W' ⟨rfl, hf⟩
    refine ⟨?_, h.quiet hf⟩
    have e : (K2 u wr off full left tear (Dab fa fb) A B).pend = ((A.b.length : Int) - (A.safe : Int)) + (((B.b.length : Int) - (B.safe : Int)) + 0) := rfl
    rw [e]
    congr 2
    omega
/-- A crash. -/
theorem DS.crash2 {w W : World} {d m u wr fa fb : Nat} {off full : Bool} {left tear : Int} {A B : FM} {q : DW} {O : Nat → Prop} (h : DS w W d m (K2 u wr off full left tear (Dab fa fb) A B) q O) (keep u' ga gb : Nat) (hk : keep ≤ 1000) (hA : A.b.length ≤ 1000) (hB : B.b.length ≤ 1000) (wA : A.safe + sumP A.ps = A.b.length) (wB : B.safe + sumP B.ps = B.b.length) (pA : A.ps.length ≤ 100) (pB : B.ps.length ≤ 100) (sA : ∀ p ∈ A.ps, p.2 ≤ 1000) (sB : ∀ p ∈ B.ps, p.2 ≤ 1000) (hu : u = A.b.length + B.b.length) (G : Nat → Nat → List Own3) (hG : ∀ x y : Nat, (A.ps.map (fun p => Own3.mk p.1 p.2 x) ++ B.ps.map (fun p => Own3.mk p.1 p.2 y)).Perm (G x y)) (hr : ∀ x y : Nat, (G x y).Pairwise (fun a b => a.wr < b.wr)) (hga : ∀ x y : Nat, x ≠ y → gain (G x y) keep x = ga ∧ gain (G x y) keep y = gb) (hga2 : A.safe + ga ≤ A.b.length) (hgb2 : B.safe + gb ≤ B.b.length) (hu' : u' = A.safe + ga + (B.safe + gb)) :
    Calls Tryz.prog 21 #[.pointer (some ⟨d, 0, none⟩), .int .i64 (keep : Nat)] W fun e W' => e = .returned (.tuple #[]) ∧ ∃ q', DS w W' d m (K2 u' wr true full 0 0 (Dab fa fb) ⟨A.b.take (A.safe + ga), A.safe + ga, []⟩ ⟨B.b.take (B.safe + gb), B.safe + gb, []⟩) q' O := by
  have hkeys : ∀ k, Maps.has (Dab fa fb) (.string k) = true → k = [97] ∨ k = [98] := fun k hk => by
    obtain ⟨p, hp, hs⟩ := List.any_eq_true.1 hk
    have ep : p.1 = .string k := Classical.byContradiction (fun e => by rw [Maps.sameKey_ne e] at hs; cases hs)
    rcases List.mem_cons.1 hp with rfl | hp
    · injection ep with ep; exact .inl ep.symm
    · rw [List.mem_singleton] at hp
      subst hp
      injection ep with ep; exact .inr ep.symm
  have hqa : q.fb [97] = fa := by
    have := (h.D.at_ [97] rfl).1
    have e : (Dab fa fb).atKey (.string [97]) .nil = .lit (.int .i64 (fa : Nat)) := rfl
    rw [show (K2 u wr off full left tear (Dab fa fb) A B).D = Dab fa fb from rfl, e] at this
    injection this with h1; injection h1 with _ h1; omega
  have hqb : q.fb [98] = fb := by
    have := (h.D.at_ [98] rfl).1
    have e : (Dab fa fb).atKey (.string [98]) .nil = .lit (.int .i64 (fb : Nat)) := rfl
    rw [show (K2 u wr off full left tear (Dab fa fb) A B).D = Dab fa fb from rfl, e] at this
    injection this with h1; injection h1 with _ h1; omega
  have hne : fa ≠ fb := by
    have := (h.D.ap [97] [98] rfl rfl (by decide)).1
    rw [hqa, hqb] at this
    exact this
  have hall : (K2 u wr off full left tear (Dab fa fb) A B).allp q = A.ps.map (fun p => Own3.mk p.1 p.2 fa) ++ B.ps.map (fun p => Own3.mk p.1 p.2 fb) := by
    have e : (K2 u wr off full left tear (Dab fa fb) A B).allp q = A.ps.map (fun p => Own3.mk p.1 p.2 (q.fb [97])) ++ (B.ps.map (fun p => Own3.mk p.1 p.2 (q.fb [98])) ++ []) := rfl
    rw [e, hqa, hqb, List.append_nil]
  have hsum : sumA (K2 u wr off full left tear (Dab fa fb) A B).ln (ents (Dab fa fb)) = (A.b.length : Int) + ((B.b.length : Int) + 0) := rfl
  refine (crash_any d m (keep : Nat) _ q O W h.D (by rw [hall]; simp; omega) (fun k hk => ?_) (by omega) (fun k hk => ?_) (fun k hk => ?_) ?_ ?_).mono ?_
  · rcases hkeys k hk with rfl | rfl
    · show A.ps.length ≤ 1000000; omega
    · show B.ps.length ≤ 1000000; omega
  · rcases hkeys k hk with rfl | rfl
    · exact ⟨show A.safe ≤ 1048576 by omega, fun p hp => Nat.le_trans (sA p hp) (by decide)⟩
    · exact ⟨show B.safe ≤ 1048576 by omega, fun p hp => Nat.le_trans (sB p hp) (by decide)⟩
  · rcases hkeys k hk with rfl | rfl
    · exact ⟨show A.safe + sumP A.ps ≤ A.b.length by omega, show A.b.length ≤ 1048576 by omega⟩
    · exact ⟨show B.safe + sumP B.ps ≤ B.b.length by omega, show B.b.length ≤ 1048576 by omega⟩
  · rw [show ((K2 u wr off full left tear (Dab fa fb) A B).used : Int) = (u : Int) from rfl, show (K2 u wr off full left tear (Dab fa fb) A B).D = Dab fa fb from rfl, hsum]
    omega
  · show u ≤ 1048576; omega
  · rintro e W' ⟨rfl, L, q', hp, hs, hD2, _, hf⟩
    rw [hall] at hp
    have hL : L = G fa fb := perm_rise _ _ (hp.trans (hG fa fb)) hs (hr fa fb)
    subst hL
    obtain ⟨g1, g2⟩ := hga fa fb hne
    have hDM : (((K2 u wr off full left tear (Dab fa fb) A B).offd).plus q (G fa fb) ((keep : Nat) : Int).toNat).crashT = K2 u' wr true full 0 0 (Dab fa fb) ⟨A.b.take (A.safe + ga), A.safe + ga, []⟩ ⟨B.b.take (B.safe + gb), B.safe + gb, []⟩ := by
      rw [Int.toNat_natCast]
      have hF : ∀ k, ((((K2 u wr off full left tear (Dab fa fb) A B).offd).plus q (G fa fb) keep).F k).crash = KF ⟨A.b.take (A.safe + ga), A.safe + ga, []⟩ ⟨B.b.take (B.safe + gb), B.safe + gb, []⟩ k := fun k => by
        simp only [DM.plus, DM.offd, K2, KF]
        by_cases h1 : k = [97]
        · subst h1
          simp only [if_pos, FM.crash, hqa, g1]
          rw [List.length_take, Nat.min_eq_left hga2]
        · rw [if_neg h1, if_neg h1]
          by_cases h2 : k = [98]
          · subst h2
            simp only [if_pos, FM.crash, hqb, g2]
            rw [List.length_take, Nat.min_eq_left hgb2]
          · rw [if_neg h2, if_neg h2]
            simp [FM.crash]
      have hpd : sumA (((K2 u wr off full left tear (Dab fa fb) A B).offd).plus q (G fa fb) keep).pd (ents (Dab fa fb)) = ((A.b.length : Int) - ((A.safe + gain (G fa fb) keep (q.fb [97]) : Nat) : Int)) + (((B.b.length : Int) - ((B.safe + gain (G fa fb) keep (q.fb [98]) : Nat) : Int)) + 0) := rfl
      rw [hqa, hqb, g1, g2] at hpd
      simp only [DM.crashT]
      rw [show (((K2 u wr off full left tear (Dab fa fb) A B).offd).plus q (G fa fb) keep).D = Dab fa fb from rfl, hpd]
      simp only [hF]
      simp only [DM.plus, DM.offd, K2]
      congr 1
      omega
    rw [hDM] at hD2
    exact ⟨rfl, q', h.step hD2 hf (fun k hk => .inl hk)⟩
end Go.Proofs.YtmmaddlphclpnaaGreatDoor

namespace Go.Proofs.YtmmaddlphclpnaaGreatDoor
open Go.RowKit Go.ChangeShapes Go.WideShapes Go.Maps Go.Sort

set_option maxHeartbeats 1000000 in
set_option maxRecDepth 100000 in
/-- Log.find where there is no segment. -/
theorem find_new (w : World) (l d m : Nat) (L : LM) (s : DM) (q : DW) (O : Nat → Prop) (sv pv : Value) (W : World) (h : WL w W l d m L s q O sv pv) (hs : L.segs = []) (hnl : L.name.size ≤ 32) (ho : s.off = false) (hh : Maps.has s.D (.string (nm (seg L.name 0))) = false) (hsz : Maps.size s.D < 256) :
    Calls Tryz.prog 38 #[.pointer (some ⟨l, 0, none⟩)] W fun e W' => e = .returned (.int .i64 0) ∧ ∃ fb q' O' sv', WL w W' l d m { L with segs := [0] } (s.made (nm (seg L.name 0)) fb) q' O' sv' pv := by
  have HS := hide (scan_none w l d m L s q O sv pv W h hs hnl ho hh)
  have HB : Hid (∀ W', Fr (fun _ => False) W W' → Calls Tryz.prog 74 #[.pointer (some ⟨l, 0, none⟩)] W' fun e W2 => e = .returned (.int .i64 0) ∧ ∃ fb q' O' sv', WL w W2 l d m { L with segs := [0] } (s.made (nm (seg L.name 0)) fb) q' O' sv' pv) := fun W' hf => by
    have := begin_ok w l d m L s q O sv pv W' (h.quiet hf) ho hnl (by rw [hs]; decide) (by rw [hs]; exact hh) hsz
    rw [hs] at this
    exact this
  have HK : Hid (∀ W', Fr (fun _ => False) W W' → ∃ so sc, W'.cell? ⟨l, 3, none⟩ = some (.slice so 0 sc)) := fun W' hf => by
    obtain ⟨so, sc, e⟩ := own_formX h.G.so
    have := (h.quiet hf).G.cells.2.2.2.1
    rw [e, hs] at this
    exact ⟨so, sc, this⟩
  clear h hs hnl ho hh hsz
  go_enter Tryz.func38, Tryz.ntmps38
  go_wp2_with fail
  refine (unhide HS).mono ?_
  rintro e w1 ⟨rfl, hf1⟩
  obtain ⟨so, sc, c3⟩ := (unhide HK) _ hf1
  have HB1 := hide ((unhide HB) _ hf1)
  clear hf1
  go_wp2_with fail
  refine (unhide HB1).mono ?_
  rintro e w2 ⟨rfl, hW⟩
  have HW := hide hW
  clear hW
  go_wp2_with fail
  go_ret
  exact ⟨rfl, unhide HW⟩
set_option maxHeartbeats 1000000 in
set_option maxRecDepth 100000 in
/-- Open where there is no segment. -/
theorem open_new (w : World) (d m z : Nat) (s : DM) (q : DW) (O : Nat → Prop) (name : ByteArray) (W : World) (h : DS w W d m s q O) (hn1 : 1 ≤ name.size) (hn2 : name.size ≤ 32) (hz1 : 16 ≤ z) (hz2 : z ≤ 1048576) (ho : s.off = false) (hh : Maps.has s.D (.string (nm (seg name 0))) = false) (hsz : Maps.size s.D < 256) :
    Calls Tryz.prog 10 #[.pointer (some ⟨d, 0, none⟩), .string name, .int .i64 (z : Nat)] W fun e W' => ∃ l, e = .returned (.tuple #[.pointer (some ⟨l, 0, none⟩), .int .i64 0]) ∧ ∃ fb q' O' sv', WL w W' l d m ⟨name, z, [0], []⟩ (s.made (nm (seg name 0)) fb) q' O' sv' (.slice none 0 0) := by
  have HO := hide (off_any d m s q O W h.D)
  rw [ho] at HO
  have HF : Hid (∀ W1 W2 l, Fr (fun _ => False) W W1 → W2 = W1.alloc (.cells #[.pointer (some ⟨d, 0, none⟩), .string name, .int .i64 (z : Nat), .slice none 0 0, .slice none 0 0] 82) → l = W1.heap.size → Calls Tryz.prog 38 #[.pointer (some ⟨l, 0, none⟩)] W2 fun e W' => e = .returned (.int .i64 0) ∧ ∃ fb q' O' sv', WL w W' l d m ⟨name, z, [0], []⟩ (s.made (nm (seg name 0)) fb) q' O' sv' (.slice none 0 0)) := fun W1 W2 l hf e2 el => by
    subst el
    subst e2
    have h1 := h.quiet hf
    have h2 := h1.quiet (box1 W1 (.cells #[.pointer (some ⟨d, 0, none⟩), .string name, .int .i64 (z : Nat), .slice none 0 0, .slice none 0 0] 82))
    have hw : WL w (W1.alloc (.cells #[.pointer (some ⟨d, 0, none⟩), .string name, .int .i64 (z : Nat), .slice none 0 0, .slice none 0 0] 82)) W1.heap.size d m ⟨name, z, [], []⟩ s q O (.slice none 0 0) (.slice none 0 0) :=
      ⟨h2.D, ⟨heap_alloc_new _ _, World.ownsRow_nil _ _ _ _, World.ownsRow_nil _ _ _ _⟩, fun e => Nat.lt_irrefl _ (h1.D.lt _ e), fun g hg => (by cases hg), fun g hg => (by cases hg), h2.fr, h2.o, h1.fr.size, fun g hg => (by cases hg), fun g hg => (by cases hg)⟩
    exact find_new w W1.heap.size d m ⟨name, z, [], []⟩ s q O _ _ _ hw rfl hn2 ho hh hsz
  have HC : Hid (∀ W', Calls Tryz.prog 37 #[.string name] W' fun e w' => e = .returned (.string name) ∧ Fr (fun _ => False) W' w') := fun W' => sclone_any name W' (by omega)
  have h1 : ¬ (name.size : Int) < 1 := by omega
  have h2 : ¬ (32 : Int) < (name.size : Int) := by omega
  have h3 : ¬ (z : Int) < 16 := by omega
  have h4 : ¬ (1048576 : Int) < (z : Int) := by omega
  clear h ho hh hsz hn1 hn2 hz1 hz2
  go_enter Tryz.func10, Tryz.ntmps10
  go_wp2_with (go_at_call 33; refine (unhide HO).mono ?_; rintro e w' ⟨rfl, rfl⟩; clear HO)
  refine ((unhide HC) _).mono ?_
  rintro e w1 ⟨rfl, hf1⟩
  have HF1 := hide ((unhide HF) w1 _ _ hf1 rfl rfl)
  clear hf1 HF HC
  go_wp2_with (go_at_call 38; refine (unhide HF1).mono ?_; rintro e w2 ⟨rfl, hW⟩; clear HF1; have HW := hide hW; clear hW)
  go_ret2
  exact ⟨_, rfl, unhide HW⟩
end Go.Proofs.YtmmaddlphclpnaaGreatDoor

namespace Go.Proofs.YtmmaddlphclpnaaGreatDoor
open Go.RowKit Go.ChangeShapes Go.WideShapes Go.Maps Go.Sort

set_option maxHeartbeats 1000000 in
set_option maxRecDepth 100000 in
/-- sort.Search. -/
theorem search_any (F n : Nat) (caps : Array Value) (p : Nat → Bool) (w : World) (hn : n ≤ 1000000)
    (he : ∀ x W, (callFunc F (#[x] ++ caps)).run Tryz.prog W = .ok (.enter F (#[x] ++ caps)) W)
    (hf : ∀ W i, Fr (fun _ => False) w W → i < n → Calls Tryz.prog F (#[.int .i64 (i : Nat)] ++ caps) W fun e w' => e = .returned (.bool (p i)) ∧ Fr (fun _ => False) w w')
    (hmono : ∀ a b, a ≤ b → b < n → p a = true → p b = true) :
    Calls Tryz.prog 48 #[.int .i64 (n : Nat), .func (.func F) #[] caps] w fun e w' => ∃ r : Nat, e = .returned (.int .i64 (r : Nat)) ∧ r ≤ n ∧ (∀ i, i < r → p i = false) ∧ (∀ i, r ≤ i → i < n → p i = true) ∧ Fr (fun _ => False) w w' := by
  have HF := hide (And.intro hf hmono)
  clear hf hmono
  go_enter Tryz.func48, Tryz.ntmps48
  go_wp2_with fail
  go_loopw [5, 6, 7] (fun iv jv _ wr => ∃ a b : Nat, iv = .int .i64 (a : Nat) ∧ jv = .int .i64 (b : Nat) ∧ a ≤ b ∧ b ≤ n ∧ (∀ i, i < a → p i = false) ∧ (∀ i, b ≤ i → i < n → p i = true) ∧ Fr (fun _ => False) w wr) (fun iv jv _ _ => (intOf jv).toNat - (intOf iv).toNat)
  case atStart => exact ⟨0, n, rfl, rfl, Nat.zero_le _, Nat.le_refl _, fun i hi => by omega, fun i h1 h2 => by omega, Fr.refl _ _⟩
  case round =>
    obtain ⟨a, b, rfl, rfl, hab, hbn, hlo, hhi, hfr⟩ := hrel
    have HI := hide (And.intro hlo (And.intro hhi hfr))
    clear hlo hhi hfr
    by_cases hlt : a < b
    · obtain ⟨h, hh, hah, hhb⟩ : ∃ h : Nat, ((a : Int) + (b : Int)) / 2 = (h : Int) ∧ a ≤ h ∧ h < b := ⟨(a + b) / 2, by omega, by omega, by omega⟩
      have HC := hide ((unhide HF).1 _ h (unhide HI).2.2 (by omega))
      go_wp2_with fail
      refine (unhide HC).mono ?_
      rintro e w2 ⟨rfl, hf2⟩
      have HF2 := hide hf2
      clear hf2 HC hh
      cases hp : p h with
      | true =>
        have HP := hide hp
        clear hp
        go_wp2_with fail
        go_roundw
        case rel => exact ⟨a, h, rfl, rfl, hah, by omega, (unhide HI).1, fun i h1 h2 => (unhide HF).2 h i h1 h2 (unhide HP), unhide HF2⟩
        case measure => simp [intOf]; omega
      | false =>
        have HP := hide hp
        clear hp
        go_wp2_with fail
        go_roundw
        case rel =>
          refine ⟨h + 1, b, by go_num, rfl, hhb, hbn, fun i hi => ?_, (unhide HI).2.1, unhide HF2⟩
          cases hpi : p i with
          | false => rfl
          | true => have := (unhide HF).2 i h (by omega) (by omega) hpi; rw [unhide HP] at this; cases this
        case measure => simp [intOf]; omega
    · go_wp2_with fail
      go_ret
      obtain rfl : a = b := by omega
      exact ⟨a, rfl, hbn, (unhide HI).1, (unhide HI).2.1, (unhide HI).2.2⟩
end Go.Proofs.YtmmaddlphclpnaaGreatDoor

namespace Go.Proofs.YtmmaddlphclpnaaGreatDoor
open Go.RowKit Go.ChangeShapes Go.WideShapes Go.Maps Go.Sort

/-- Is a payload not safe? -/
def pendP (op sf : Nat) (x : Nat × Nat × Nat) : Bool := decide (x.1 = op ∧ sf < x.2.1 + x.2.2)
set_option maxHeartbeats 1000000 in
set_option maxRecDepth 100000 in
theorem sync1_any (bl bo bs l d op sf i a b c : Nat) (L : LM) (sv pv : Value) (W : World) (h : LgAt W l d L sv pv) (hk : L.pls[i]? = some (a, b, c)) (hl : W.cell? ⟨bl, 0, none⟩ = some (.pointer (some ⟨l, 0, none⟩))) (ho : W.cell? ⟨bo, 0, none⟩ = some (.int .i64 (op : Nat))) (hs : W.cell? ⟨bs, 0, none⟩ = some (.int .i64 (sf : Nat))) (hb : b ≤ 10000000) (hc : c ≤ 10000000) :
    Calls Tryz.prog 49 #[.int .i64 (i : Nat), .pointer (some ⟨bl, 0, none⟩), .pointer (some ⟨bo, 0, none⟩), .pointer (some ⟨bs, 0, none⟩)] W fun e W' => e = .returned (.bool (pendP op sf (a, b, c))) ∧ Fr (fun _ => False) W W' := by
  obtain ⟨g, pc, rfl, hkl, e0, e1, e2⟩ := h.pay hk
  obtain ⟨c0, c1, c2, c3, c4, fz⟩ := h.cells
  have l1 := lt_of_cell hl
  have l2 := lt_of_cell ho
  have l3 := lt_of_cell hs
  obtain ⟨PL, hPL⟩ : ∃ PL, PL = L.pls.length := ⟨_, rfl⟩
  rw [← hPL] at c4 hkl
  clear h hk hPL c0 c1 c2 c3 fz
  have hkl' : (i : Int) < (PL : Int) := by omega
  by_cases hao : a = op
  · subst hao
    obtain ⟨r, hr⟩ : ∃ r, pendP a sf (a, b, c) = r := ⟨_, rfl⟩
    have hr2 : decide ((sf : Int) < (b : Int) + (c : Int)) = r := by
      rw [← hr]
      simp only [pendP, true_and]
      exact decide_eq_decide.2 (by omega)
    rw [hr]
    have HR := hide hr2
    clear hr hr2
    go_enter Tryz.func49, Tryz.ntmps49
    go_wp2_with fail
    go_ret
    exact ⟨congrArg (fun b => Ending.returned (Value.bool b)) (unhide HR), box1 W _⟩
  · have hr : pendP op sf (a, b, c) = false := by simp [pendP, hao]
    have hao' : ¬ ((a : Int) = (op : Int)) := by omega
    rw [hr]
    clear hr
    go_enter Tryz.func49, Tryz.ntmps49
    go_wp2_with fail
    go_ret
    exact ⟨rfl, box1 W _⟩
/-- Which payloads are not safe. -/
def LM.uns (L : LM) (op sf i : Nat) : Bool := (L.pls[i]?).elim false (pendP op sf)
theorem entersW {F : Nat} {fn : Func} (hf : Tryz.prog.funcs[F]? = some fn) (hn : (fn.name == "runtime.NumGoroutine") = false) (hb : fn.body.isSome = true) (caps : Array Value) (W : World) : (callFunc F caps).run Tryz.prog W = .ok (.enter F caps) W := by
  have h1 : ¬ fn.name = "runtime.NumGoroutine" := by simpa using hn
  have h2 : ¬ fn.body = none := by intro h; rw [h] at hb; cases hb
  simp [callFunc, hf, h1, h2]
set_option maxHeartbeats 1000000 in
set_option maxRecDepth 100000 in
/-- Log.Synced. -/
theorem wsynced_any (w : World) (l d m : Nat) (L : LM) (s : DM) (q : DW) (O : Nat → Prop) (sv pv : Value) (ss : List Nat) (x : Nat) (W : World) (h : WL w W l d m L s q O sv pv) (hs : L.segs = ss ++ [x]) (hl : ss.length < 100) (hnl : L.name.size ≤ 32) (hlp : L.pls.length ≤ 1000000) (hpb : ∀ p ∈ L.pls, p.2.1 ≤ 10000000 ∧ p.2.2 ≤ 10000000) (ho : s.off = false) (hh : Maps.has s.D (.string (nm (seg L.name ss.length))) = true) (hmono : ∀ a b, a ≤ b → b < L.pls.length → L.uns ss.length (s.F (nm (seg L.name ss.length))).safe a = true → L.uns ss.length (s.F (nm (seg L.name ss.length))).safe b = true) :
    Calls Tryz.prog 14 #[.pointer (some ⟨l, 0, none⟩)] W fun e W' => ∃ r : Nat, e = .returned (.int .i64 (r : Nat)) ∧ r ≤ L.pls.length ∧ (∀ i, i < r → L.uns ss.length (s.F (nm (seg L.name ss.length))).safe i = false) ∧ (∀ i, r ≤ i → i < L.pls.length → L.uns ss.length (s.F (nm (seg L.name ss.length))).safe i = true) ∧ Fr (fun _ => False) W W' := by
  have hsz := seg_size L.name ss.length hl
  obtain ⟨sf, hsf⟩ : ∃ sf, sf = (s.F (nm (seg L.name ss.length))).safe := ⟨_, rfl⟩
  rw [← hsf] at hmono ⊢
  have HO : Hid (∀ W', Fr (fun _ => False) W W' → Calls Tryz.prog 44 #[.pointer (some ⟨l, 0, none⟩)] W' fun e w' => e = .returned (.int .i64 (ss.length : Nat)) ∧ w' = W') := fun W' hf => by
    have hlen : L.segs.length = ss.length + 1 := by rw [hs]; simp
    have := wopen_any l d L sv pv W' (h.quiet hf).G (by omega)
    rw [show (L.segs.length : Int) - 1 = (ss.length : Nat) by omega] at this
    exact this
  have HFi : Hid (∀ W', Fr (fun _ => False) W W' → Calls Tryz.prog 43 #[.pointer (some ⟨l, 0, none⟩), .int .i64 (ss.length : Nat)] W' fun e W2 => e = .returned (.string (seg L.name ss.length)) ∧ Fr (fun _ => False) W' W2) := fun W' hf =>
    file_any l ss.length L.name W' hl (h.quiet hf).G.cells.2.1 (by omega)
  have HSy : Hid (∀ W', Fr (fun _ => False) W W' → Calls Tryz.prog 47 #[.pointer (some ⟨d, 0, none⟩), .string (seg L.name ss.length)] W' fun e W2 => e = .returned (.tuple #[.int .i64 (sf : Nat), .int .i64 0]) ∧ W2 = W') := fun W' hf => by
    rw [hsf]
    exact synced_at d m s q O (seg L.name ss.length) W' (h.quiet hf).D ho (by simp only [maxLen]; omega) hh
  have HCl : Hid (∀ W' bl bo bs i, Fr (fun _ => False) W W' → W'.cell? ⟨bl, 0, none⟩ = some (.pointer (some ⟨l, 0, none⟩)) → W'.cell? ⟨bo, 0, none⟩ = some (.int .i64 (ss.length : Nat)) → W'.cell? ⟨bs, 0, none⟩ = some (.int .i64 (sf : Nat)) → i < L.pls.length → Calls Tryz.prog 49 #[.int .i64 (i : Nat), .pointer (some ⟨bl, 0, none⟩), .pointer (some ⟨bo, 0, none⟩), .pointer (some ⟨bs, 0, none⟩)] W' fun e W2 => e = .returned (.bool (L.uns ss.length sf i)) ∧ Fr (fun _ => False) W' W2) := fun W' bl bo bs i hf h1 h2 h3 hi => by
    have hk : L.pls[i]? = some (L.pls[i].1, L.pls[i].2.1, L.pls[i].2.2) := List.getElem?_eq_getElem hi
    have hb := hpb L.pls[i] (List.getElem_mem hi)
    have e : L.uns ss.length sf i = pendP ss.length sf (L.pls[i].1, L.pls[i].2.1, L.pls[i].2.2) := by rw [LM.uns, hk]; rfl
    rw [e]
    exact sync1_any bl bo bs l d ss.length sf i _ _ _ L sv pv W' (h.quiet hf).G hk h1 h2 h3 hb.1 hb.2
  have HK : Hid (∀ W', Fr (fun _ => False) W W' → W'.cell? ⟨l, 0, none⟩ = some (.pointer (some ⟨d, 0, none⟩)) ∧ ∃ po pc, W'.cell? ⟨l, 4, none⟩ = some (.slice po L.pls.length pc)) := fun W' hf => by
    obtain ⟨po, pc, e⟩ := own_formX h.G.po
    have c4 := (h.quiet hf).G.cells.2.2.2.2.1
    rw [e] at c4
    exact ⟨(h.quiet hf).G.cells.1, po, pc, c4⟩
  have HM := hide hmono
  obtain ⟨SN, hSN⟩ : ∃ SN, SN = seg L.name ss.length := ⟨_, rfl⟩
  rw [← hSN] at HFi HSy
  clear h hs hnl hpb ho hh hmono hsz hsf hSN
  go_enter Tryz.func14, Tryz.ntmps14
  go_wp2_with fail
  obtain ⟨W1, hW1⟩ : ∃ W1, W1 = W.alloc (.cells #[.pointer (some ⟨l, 0, none⟩)] 27) := ⟨_, rfl⟩
  obtain ⟨B1, hB1⟩ : ∃ B1, B1 = W.heap.size := ⟨_, rfl⟩
  have hf1 : Fr (fun _ => False) W W1 := by rw [hW1]; exact box1 W _
  have k1 : W1.heap[B1]? = some (.cells #[.pointer (some ⟨l, 0, none⟩)] 27) := by rw [hW1, hB1]; exact heap_alloc_new W _
  have HF1 := hide (And.intro hf1 k1)
  rw [← hW1, ← hB1]
  clear hW1 hB1 hf1 k1
  refine ((unhide HO) W1 (unhide HF1).1).mono ?_
  rintro e w2 ⟨rfl, rfl⟩
  rename World => W1
  have c1 : W1.cell? ⟨B1, 0, none⟩ = some (.pointer (some ⟨l, 0, none⟩)) := by simp [World.cell?, (unhide HF1).2]
  have l1 := lt_of_cell c1
  obtain ⟨cd, _⟩ := (unhide HK) _ (unhide HF1).1
  have ll := lt_of_cell cd
  clear HO
  go_wp2_with fail
  obtain ⟨W2, hW2⟩ : ∃ W2, W2 = W1.alloc (.cells #[.int .i64 (ss.length : Nat)] 3) := ⟨_, rfl⟩
  obtain ⟨B2, hB2⟩ : ∃ B2, B2 = W1.heap.size := ⟨_, rfl⟩
  have hf12 : Fr (fun _ => False) W1 W2 := by rw [hW2]; exact box1 W1 _
  have k2 : W2.heap[B2]? = some (.cells #[.int .i64 (ss.length : Nat)] 3) := by rw [hW2, hB2]; exact heap_alloc_new W1 _
  have k1 : W2.heap[B1]? = some (.cells #[.pointer (some ⟨l, 0, none⟩)] 27) := (hf12.block B1 l1 (fun h => h)).trans (unhide HF1).2
  have hf2 : Fr (fun _ => False) W W2 := (unhide HF1).1.trans hf12 (fun _ _ h => h)
  have HBx : Hid (∀ W', Fr (fun _ => False) W2 W' → W'.cell? ⟨l, 0, none⟩ = some (.pointer (some ⟨d, 0, none⟩)) ∧ W'.cell? ⟨B1, 0, none⟩ = some (.pointer (some ⟨l, 0, none⟩)) ∧ W'.cell? ⟨B2, 0, none⟩ = some (.int .i64 (ss.length : Nat))) := fun W' hf => by
    have b1 := (hf.block B1 (lt_of_block k1) (fun h => h)).trans k1
    have b2 := (hf.block B2 (lt_of_block k2) (fun h => h)).trans k2
    exact ⟨((unhide HK) _ (hf2.trans hf (fun _ _ h => h))).1, by simp [World.cell?, b1], by simp [World.cell?, b2]⟩
  have HF2 := hide (And.intro hf2 (And.intro k1 k2))
  rw [← hW2, ← hB2]
  clear hW2 hB2 hf12 hf2 k1 k2 c1 l1 cd ll HF1
  go_region_held_law (fun w' => w'.cell? ⟨l, 0, none⟩ = some (.pointer (some ⟨d, 0, none⟩)) ∧ w'.cell? ⟨B1, 0, none⟩ = some (.pointer (some ⟨l, 0, none⟩)) ∧ w'.cell? ⟨B2, 0, none⟩ = some (.int .i64 (ss.length : Nat)))
    (first | exact (unhide HBx) _ (Fr.refl _ _).drew | exact (unhide HBx) _ ((Fr.refl _ _).drew.alloc _) | exact (unhide HBx) _ hf3 | exact (unhide HBx) _ (hf3.alloc _) | exact (unhide HBx) _ (hf3.setCell (p := ⟨W2.heap.size, 0, none⟩) (.inr (Nat.le_refl _)) _))
    (first
      | (go_at_call 43
         first
           | (refine ((unhide HFi) _ (unhide HF2).1.drew).mono ?_; rintro e w3 ⟨rfl, hf3'⟩; clear HFi; have hf3 : Fr (fun _ => False) W2 w3 := (Fr.refl _ _).drew.trans hf3' (fun _ _ h => h))
           | (refine ((unhide HFi) _ ((unhide HF2).1.drew.alloc _)).mono ?_; rintro e w3 ⟨rfl, hf3'⟩; clear HFi; have hf3 : Fr (fun _ => False) W2 w3 := ((Fr.refl _ _).drew.alloc _).trans hf3' (fun _ _ h => h); have hq : w3.heap[W2.heap.size]? = some (.cells #[.int .i64 0] 3) := (hf3'.block W2.heap.size (by simp) (fun h => h)).trans (heap_alloc_new W2.drew _); have hq1 : w3.cell? ⟨W2.heap.size, 0, none⟩ = some (.int .i64 0) := (by simp [World.cell?, hq]); have hq2 : w3.frozen? ⟨W2.heap.size, 0, none⟩ = false := (by simp [World.frozen?, hq])))
      | (go_at_call 47
         first
           | (refine ((unhide HSy) _ ((unhide HF2).1.trans hf3 (fun _ _ h => h))).mono ?_; rintro e w4 ⟨rfl, rfl⟩; clear HSy)
           | (refine ((unhide HSy) _ (((unhide HF2).1.trans hf3 (fun _ _ h => h)).alloc _)).mono ?_; rintro e w4 ⟨rfl, rfl⟩; clear HSy)))
  all_goals
    first
      | (obtain ⟨W5, hW5⟩ : ∃ W5, W5 = w4.alloc (.cells #[.int .i64 (sf : Nat)] 3) := ⟨_, rfl⟩
         obtain ⟨B3, hB3⟩ : ∃ B3, B3 = w4.heap.size := ⟨_, rfl⟩
         have hf5 : Fr (fun _ => False) W2 W5 := (by rw [hW5]; exact hf3.alloc _)
         have k3 : W5.heap[B3]? = some (.cells #[.int .i64 (sf : Nat)] 3) := (by rw [hW5, hB3]; exact heap_alloc_new w4 _)
         rw [← hW5, ← hB3])
      | (obtain ⟨W5, hW5⟩ : ∃ W5, W5 = w3.alloc (.cells #[.int .i64 (sf : Nat)] 3) := ⟨_, rfl⟩
         obtain ⟨B3, hB3⟩ : ∃ B3, B3 = w3.heap.size := ⟨_, rfl⟩
         have hf5 : Fr (fun _ => False) W2 W5 := (by rw [hW5]; exact hf3.alloc _)
         have k3 : W5.heap[B3]? = some (.cells #[.int .i64 (sf : Nat)] 3) := (by rw [hW5, hB3]; exact heap_alloc_new w3 _)
         rw [← hW5, ← hB3])
      | (obtain ⟨W5, hW5⟩ : ∃ W5, W5 = w4.setCell ⟨W2.heap.size, 0, none⟩ (.int .i64 (sf : Nat)) := ⟨_, rfl⟩
         obtain ⟨B3, hB3⟩ : ∃ B3, B3 = W2.heap.size := ⟨_, rfl⟩
         have hf5 : Fr (fun _ => False) W2 W5 := (by rw [hW5]; exact hf3.setCell (p := ⟨W2.heap.size, 0, none⟩) (.inr (Nat.le_refl _)) _)
         have k3 : W5.heap[B3]? = some (.cells #[.int .i64 (sf : Nat)] 3) := (by rw [hW5, hB3, blkset hq]; rfl)
         rw [← hW5, ← hB3])
    have hfW : Fr (fun _ => False) W W5 := (unhide HF2).1.trans hf5 (fun _ _ h => h)
    obtain ⟨-, po, pc, c4⟩ := (unhide HK) _ hfW
    obtain ⟨-, cb1, cb2⟩ := (unhide HBx) _ hf5
    have cb3 : W5.cell? ⟨B3, 0, none⟩ = some (.int .i64 (sf : Nat)) := by simp [World.cell?, k3]
    have HSe := hide (search_any 49 L.pls.length #[.pointer (some ⟨B1, 0, none⟩), .pointer (some ⟨B2, 0, none⟩), .pointer (some ⟨B3, 0, none⟩)] (L.uns ss.length sf) W5 hlp (fun x W' => entersW Tryz.func49 rfl rfl _ W') (fun W' i hf hi => by
      have b1 := (unhide HBx) _ (hf5.trans hf (fun _ _ h => h))
      have b3 : W'.cell? ⟨B3, 0, none⟩ = some (.int .i64 (sf : Nat)) := (hf.cell (p := ⟨B3, 0, none⟩) (lt_of_block k3) (fun h => h)).trans cb3
      refine ((unhide HCl) W' B1 B2 B3 i (hfW.trans hf (fun _ _ h => h)) b1.2.1 b1.2.2 b3 hi).mono ?_
      rintro e w' ⟨rfl, hf'⟩
      exact ⟨rfl, hf.trans hf' (fun _ _ h => h)⟩) (unhide HM))
    have HFW := hide hfW
    clear hW5 hB3 hf5 k3 hfW hf3 cb2 cb3
    go_wp2_with fail
    refine (unhide HSe).mono ?_
    rintro e w6 ⟨r, rfl, hr1, hr2, hr3, hf6⟩
    have H6 := hide (And.intro hr1 (And.intro hr2 (And.intro hr3 ((unhide HFW).trans hf6 (fun _ _ h => h)))))
    clear hr1 hr2 hr3 hf6 HSe
    go_wp2_with fail
    go_ret
    exact ⟨r, rfl, unhide H6⟩
end Go.Proofs.YtmmaddlphclpnaaGreatDoor

namespace Go.Proofs.YtmmaddlphclpnaaGreatDoor
open Go.RowKit Go.ChangeShapes Go.WideShapes Go.Maps Go.Sort

def sLog : ByteArray := ⟨#[108, 111, 103]⟩
theorem segLog : nm (seg sLog 0) = [108, 111, 103, 46, 48] := by decide +kernel
/-- A new log's disk. -/
theorem new_good (z fb : Nat) (hz : z ≤ 1048576) (x : List UInt8) : ((DM.new z).made x fb).Good := ⟨rfl, rfl, rfl, by show (0 : Int) ≤ 0; decide, by show (0 : Int) < _; decide, hz, by show 0 < _; decide⟩
/-- The first payload of a new log. -/
theorem wappend_first (w : World) (l d m z Z fb : Nat) (q : DW) (O : Nat → Prop) (sv pv y : Value) (p : List Nat) (W : World) (h : WL w W l d m ⟨sLog, Z, [0], []⟩ ((DM.new z).made (nm (seg sLog 0)) fb) q O sv pv) (hy : Src W y p) (hp : p.length + 12 ≤ Z) (hZ : Z ≤ 1048576) (hr : p.length + 12 ≤ z) (hz : z ≤ 1048576) :
    Calls Tryz.prog 13 #[.pointer (some ⟨l, 0, none⟩), y] W fun e W' => e = .returned (.tuple #[.int .i64 0, .int .i64 0]) ∧ ∃ q' O' sv' pv', WL w W' l d m ⟨sLog, Z, [12 + p.length], [(0, 12, p.length)]⟩ (((DM.new z).made (nm (seg sLog 0)) fb).app (nm (seg sLog 0)) (frame p)) q' O' sv' pv' ∧ (∀ k, O' k → O k ∨ W.heap.size ≤ k) ∧ Fr (fun k => O k ∨ k = l ∨ sv.ownBlock = some k ∨ pv.ownBlock = some k) W W' := by
  have hF : (((DM.new z).made (nm (seg sLog 0)) fb).F (nm (seg sLog 0))) = ⟨[], 0, []⟩ := by simp [DM.made]
  have hc := wappend_core w l d m ⟨sLog, Z, [0], []⟩ ⟨sLog, Z, [0], []⟩ ((DM.new z).made (nm (seg sLog 0)) fb) ((DM.new z).made (nm (seg sLog 0)) fb) q O sv pv y [] 0 p W h hy
    ((makeRoom_fits l d ⟨sLog, Z, [0], []⟩ sv pv [] 0 (12 + p.length) W h.G rfl (by decide) (by decide) (by omega) (by show Z ≤ _; omega) (by show 0 + _ ≤ Z; omega)).mono (fun e W' he => ⟨he.1, q, O, sv, h.quiet he.2, hy.fr0 he.2, fun _ h => .inl h, fun _ h => .inl h, he.2.mono (fun _ _ h => h.elim)⟩))
    (by omega) hp hZ rfl rfl rfl (show sLog.size ≤ 32 by decide) (by decide) (Nat.zero_le _) (by decide) (new_good z fb hz _) (by show Maps.has ((DM.new z).made (nm (seg sLog 0)) fb).D (.string (nm (seg sLog 0))) = true; rw [one_D]; exact one_has _ _) (by show 0 + _ ≤ z; omega) (by show (((DM.new z).made (nm (seg sLog 0)) fb).F (nm (seg sLog 0))).b.length ≤ _; rw [hF]; decide) (by show (((DM.new z).made (nm (seg sLog 0)) fb).F (nm (seg sLog 0))).ps.length ≤ _; rw [hF]; decide)
  refine hc.mono ?_
  rintro e W' ⟨rfl, q', O', sv', pv', hW, hO⟩
  refine ⟨rfl, q', O', sv', pv', ?_, hO⟩
  have e : (0 + (12 + p.length)) = 12 + p.length := by omega
  rw [e] at hW
  exact hW
theorem first_F (z fb : Nat) (p : List Nat) : (((DM.new z).made (nm (seg sLog 0)) fb).app (nm (seg sLog 0)) (frame p)).F (nm (seg sLog 0)) = ⟨frame p, 0, [(1, (frame p).length)]⟩ := by
  have hl : ¬ (frame p).length = 0 := by rw [frame_len]; omega
  have hc : ∀ n, ((DM.new z).made (nm (seg sLog 0)) fb).count n = ({ (DM.new z).made (nm (seg sLog 0)) fb with writes := 1 }, n) := fun n => rfl
  simp only [DM.app, hc, if_pos, List.take_length]
  simp [DM.made, DM.new, FM.put, hl]
theorem first_D (z fb : Nat) (p : List Nat) : (((DM.new z).made (nm (seg sLog 0)) fb).app (nm (seg sLog 0)) (frame p)).D = .map [(.string (nm (seg sLog 0)), .lit (.int .i64 (fb : Nat)))] := by
  have hc : ∀ n, ((DM.new z).made (nm (seg sLog 0)) fb).count n = ({ (DM.new z).made (nm (seg sLog 0)) fb with writes := 1 }, n) := fun n => rfl
  simp only [DM.app, hc]
  exact one_D _ _ _
theorem frame_pay (p : List Nat) : ((frame p).drop 12).take p.length = p := by
  have e : (hd8 p.length ++ nb4 (Sm (Sm 0 (hd8 p.length)) p)).length = 12 := rfl
  rw [frame, ← e, List.drop_left, List.take_length]
/-- At(0) of a new log's first payload. -/
theorem wat_first (w : World) (l d m z Z fb : Nat) (q : DW) (O : Nat → Prop) (sv pv : Value) (p : List Nat) (W : World) (h : WL w W l d m ⟨sLog, Z, [12 + p.length], [(0, 12, p.length)]⟩ (((DM.new z).made (nm (seg sLog 0)) fb).app (nm (seg sLog 0)) (frame p)) q O sv pv) (hp : p.length ≤ 1000000) :
    Calls Tryz.prog 20 #[.pointer (some ⟨l, 0, none⟩), .int .i64 0] W fun e W' => ∃ v, e = .returned (.tuple #[v, .int .i64 0]) ∧ W'.ownsRow W.heap.size 5 1 v p.length (cellsOf p) ∧ Fr (fun _ => False) W W' := by
  have hF := first_F z fb p
  have := wat_ok w l d m _ _ q O sv pv 0 0 12 p.length W h rfl (show sLog.size ≤ 32 by decide) (by decide) rfl (by show Maps.has (((DM.new z).made (nm (seg sLog 0)) fb).app (nm (seg sLog 0)) (frame p)).D _ = true; rw [first_D]; exact one_has _ _) (by show ((((DM.new z).made (nm (seg sLog 0)) fb).app (nm (seg sLog 0)) (frame p)).F (nm (seg sLog 0))).b.length ≤ _; rw [hF, frame_len]; omega) (by show _ ≤ ((((DM.new z).made (nm (seg sLog 0)) fb).app (nm (seg sLog 0)) (frame p)).F (nm (seg sLog 0))).b.length; rw [hF, frame_len]; omega)
  refine this.mono ?_
  rintro e W' ⟨v, rfl, h1, h2⟩
  have h3 : ((((DM.new z).made (nm (seg sLog 0)) fb).app (nm (seg sLog 0)) (frame p)).F (nm (seg sLog 0))).b = frame p := by rw [hF]
  have h4 : W'.ownsRow W.heap.size 5 1 v p.length (cellsOf (((((DM.new z).made (nm (seg sLog 0)) fb).app (nm (seg sLog 0)) (frame p)).F (nm (seg sLog 0))).b.drop 12 |>.take p.length)) := h1
  rw [h3, frame_pay] at h4
  exact ⟨v, rfl, h4, h2⟩
/-- Synced of a new log's first payload. -/
theorem wsync_first (w : World) (l d m z Z fb : Nat) (q : DW) (O : Nat → Prop) (sv pv : Value) (p : List Nat) (W : World) (h : WL w W l d m ⟨sLog, Z, [12 + p.length], [(0, 12, p.length)]⟩ (((DM.new z).made (nm (seg sLog 0)) fb).app (nm (seg sLog 0)) (frame p)) q O sv pv) (hp : p.length ≤ 1000000) :
    Calls Tryz.prog 14 #[.pointer (some ⟨l, 0, none⟩)] W fun e W' => e = .returned (.int .i64 0) ∧ Fr (fun _ => False) W W' := by
  have hF := first_F z fb p
  have hun : (LM.mk sLog Z [12 + p.length] [(0, 12, p.length)]).uns 0 0 0 = true := by
    show pendP 0 0 (0, 12, p.length) = true
    simp only [pendP]
    exact decide_eq_true ⟨trivial, by show 0 < 12 + p.length; omega⟩
  have := wsynced_any w l d m _ _ q O sv pv [] (12 + p.length) W h rfl (by decide) (show sLog.size ≤ 32 by decide) (by show 1 ≤ _; decide) (fun x hx => by
    have e : x = (0, 12, p.length) := by simpa using hx
    subst e
    exact ⟨by show 12 ≤ 10000000; decide, by show p.length ≤ _; omega⟩) rfl (by show Maps.has (((DM.new z).made (nm (seg sLog 0)) fb).app (nm (seg sLog 0)) (frame p)).D _ = true; rw [first_D]; exact one_has _ _) (fun a b hab hb _ => by
    have hb0 : b = 0 := by have : b < 1 := hb; omega
    subst hb0
    show (LM.mk sLog Z [12 + p.length] [(0, 12, p.length)]).uns 0 ((((DM.new z).made (nm (seg sLog 0)) fb).app (nm (seg sLog 0)) (frame p)).F (nm (seg sLog 0))).safe 0 = true
    rw [hF]
    exact hun)
  refine this.mono ?_
  rintro e W' ⟨r, rfl, hr1, hr2, hr3, hf⟩
  have hr0 : r = 0 := by
    rcases Nat.eq_zero_or_pos r with e | e
    · exact e
    · have h0 : (LM.mk sLog Z [12 + p.length] [(0, 12, p.length)]).uns 0 ((((DM.new z).made (nm (seg sLog 0)) fb).app (nm (seg sLog 0)) (frame p)).F (nm (seg sLog 0))).safe 0 = false := hr2 0 e
      rw [hF] at h0
      rw [hun] at h0
      cases h0
  subst hr0
  exact ⟨rfl, hf⟩
set_option maxHeartbeats 1000000 in
set_option maxRecDepth 100000 in
theorem awake9 (w : World) : Calls Tryz.prog 9 #[] w fun e w' => e = .returned (.bool true) ∧ Fr (fun _ => False) w w' := by
  go_enter Tryz.func9, Tryz.ntmps9
  go_wp2_with fail
  refine (new_any 4096 w (by decide) (by decide)).mono ?_
  rintro e w1 ⟨d, m, q, O, rfl, hD, hf, hO⟩
  have H1 := hide (DS.mk hD hf hO)
  clear hD hf hO
  go_wp2_with fail
  refine (open_new w d m 40 _ q O sLog w1 (unhide H1) (by decide) (by decide) (by decide) (by decide) rfl rfl (by decide)).mono ?_
  rintro e w2 ⟨l, rfl, fb, q2, O2, sv2, hW2⟩
  have H2 := hide hW2
  clear hW2 H1
  go_wp2_with fail
  have hbx := box1 w2 (.cells #[.int .u8 1, .int .u8 2, .int .u8 3] 5)
  refine (wappend_first w l d m 4096 40 fb q2 O2 sv2 _ (.slice (some ⟨w2.heap.size, 0, none⟩) 3 3) [1, 2, 3] _ ((unhide H2).quiet hbx) (lit_srcW w2 [1, 2, 3] #[.int .u8 1, .int .u8 2, .int .u8 3] 3 rfl) (by decide) (by decide) (by decide) (by decide)).mono ?_
  rintro e w3 ⟨rfl, q3, O3, sv3, pv3, hW3, _, _⟩
  have H3 := hide hW3
  clear hW3 H2 hbx
  go_wp2_with fail
  refine (wat_first w l d m 4096 40 fb q3 O3 sv3 pv3 [1, 2, 3] w3 (unhide H3) (by decide)).mono ?_
  rintro e w4 ⟨v4, rfl, hv4, hf4⟩
  have H4 := hide ((unhide H3).quiet hf4)
  have HV4 := hide hv4
  clear hf4 hv4 H3
  go_wp2_with fail
  have hbx := box1 w4 (.cells #[.int .u8 1, .int .u8 2, .int .u8 3] 5)
  refine (same_any _ _ [1, 2, 3] [1, 2, 3] _ ((own_src (unhide HV4)).fr hbx (fun _ _ _ _ _ h => h)) (lit_srcW w4 [1, 2, 3] #[.int .u8 1, .int .u8 2, .int .u8 3] 3 rfl) (by decide)).mono ?_
  rintro e w5 ⟨rfl, n5, rfl⟩
  rw [same_self]
  have H5 := hide ((unhide H4).quiet (hbx.drewN n5))
  clear hbx H4 HV4
  go_wp2_with fail
  refine (wlen_any l d _ sv3 pv3 _ (unhide H5).G).mono ?_
  rintro e w6 ⟨rfl, rfl⟩
  go_wp2_with fail
  refine (wsync_first w l d m 4096 40 fb q3 O3 sv3 pv3 [1, 2, 3] _ (unhide H5) (by decide)).mono ?_
  rintro e w7 ⟨rfl, hf7⟩
  have HF7 := hide ((unhide H5).fr.trans hf7 (fun _ _ h => h))
  clear hf7 H5
  go_wp2_with fail
  go_ret
  exact ⟨rfl, unhide HF7⟩
end Go.Proofs.YtmmaddlphclpnaaGreatDoor

namespace Go.Proofs.YtmmaddlphclpnaaGreatDoor
open Go.RowKit Go.ChangeShapes Go.WideShapes Go.Maps Go.Sort

/-- The number that four bytes tell. -/
def num4 (l : List Nat) : Nat := l.getD 0 0 % 256 * 16777216 + l.getD 1 0 % 256 * 65536 + l.getD 2 0 % 256 * 256 + l.getD 3 0 % 256
theorem or_add (a b k : Nat) (h : b < 2 ^ k) : a * 2 ^ k ||| b = a * 2 ^ k + b := by rw [Nat.mul_comm]; exact (Nat.two_pow_add_eq_or_of_lt h a).symm
theorem or32 (x y k : Nat) (e : ∃ z, x = z * 2 ^ k) (hy : y < 2 ^ k) (hx : x < 4294967296) (hk : y < 4294967296) : bits .or .u32 (x : Int) (y : Int) = ((x + y : Nat) : Int) := by
  rw [u32_or_nat x y hx hk]
  obtain ⟨z, rfl⟩ := e
  rw [or_add z y k hy]
set_option maxHeartbeats 1000000 in
set_option maxRecDepth 100000 in
theorem number_any (x : Value) (l : List Nat) (w : World) (hx : Src w x l) (hl : 4 ≤ l.length) :
    Calls Tryz.prog 119 #[x] w fun e w' => e = .returned (.int .u32 (num4 l : Nat)) ∧ Fr (fun _ => False) w w' := by
  obtain ⟨xo, xc, rfl⟩ := hx.form
  obtain ⟨g, o, rfl, h0⟩ := src_at hx 0 (by omega)
  have h1 := src_cell hx 1 (by omega)
  have h2 := src_cell hx 2 (by omega)
  have h3 := src_cell hx 3 (by omega)
  obtain ⟨a, ha⟩ : ∃ a, a = l[0] % 256 := ⟨_, rfl⟩
  obtain ⟨b, hb⟩ : ∃ b, b = l[1] % 256 := ⟨_, rfl⟩
  obtain ⟨c, hc⟩ : ∃ c, c = l[2] % 256 := ⟨_, rfl⟩
  obtain ⟨d, hd⟩ : ∃ d, d = l[3] % 256 := ⟨_, rfl⟩
  rw [← ha] at h0
  rw [← hb] at h1
  rw [← hc] at h2
  rw [← hd] at h3
  have la : a < 256 := by rw [ha]; exact Nat.mod_lt _ (by decide)
  have lb : b < 256 := by rw [hb]; exact Nat.mod_lt _ (by decide)
  have lc : c < 256 := by rw [hc]; exact Nat.mod_lt _ (by decide)
  have ld : d < 256 := by rw [hd]; exact Nat.mod_lt _ (by decide)
  have en : num4 l = a * 16777216 + b * 65536 + c * 256 + d := by
    simp only [num4, List.getD, ha, hb, hc, hd]
    rw [List.getElem?_eq_getElem (by omega), List.getElem?_eq_getElem (by omega), List.getElem?_eq_getElem (by omega), List.getElem?_eq_getElem (by omega)]
    rfl
  rw [en]
  clear en ha hb hc hd hx
  generalize l.length = N at *
  have q1 : bits .or .u32 ((a : Int) * 16777216) ((b : Int) * 65536) = ((a * 16777216 + b * 65536 : Nat) : Int) := or32 (a * 16777216) (b * 65536) 24 ⟨a, rfl⟩ (by show b * 65536 < 16777216; omega) (by omega) (by omega)
  have q2 : bits .or .u32 ((a * 16777216 + b * 65536 : Nat) : Int) ((c : Int) * 256) = ((a * 16777216 + b * 65536 + c * 256 : Nat) : Int) := or32 (a * 16777216 + b * 65536) (c * 256) 16 ⟨a * 256 + b, by show _ = (a * 256 + b) * 65536; omega⟩ (by show c * 256 < 65536; omega) (by omega) (by omega)
  have q3 : bits .or .u32 ((a * 16777216 + b * 65536 + c * 256 : Nat) : Int) (d : Int) = ((a * 16777216 + b * 65536 + c * 256 + d : Nat) : Int) := or32 (a * 16777216 + b * 65536 + c * 256) d 8 ⟨a * 65536 + b * 256 + c, by show _ = (a * 65536 + b * 256 + c) * 256; omega⟩ (by show d < 256; omega) (by omega) (by omega)
  obtain ⟨X1, hX1⟩ : ∃ X1 : Nat, X1 = a * 16777216 + b * 65536 := ⟨_, rfl⟩
  rw [← hX1] at q1 q2 q3 ⊢
  obtain ⟨X2, hX2⟩ : ∃ X2 : Nat, X2 = X1 + c * 256 := ⟨_, rfl⟩
  rw [← hX2] at q2 q3 ⊢
  obtain ⟨X3, hX3⟩ : ∃ X3 : Nat, X3 = X2 + d := ⟨_, rfl⟩
  rw [← hX3] at q3 ⊢
  clear hX1 hX2 hX3
  have i0 : (0 : Int) < (N : Int) := by omega
  have i1 : (1 : Int) < (N : Int) := by omega
  have i2 : (2 : Int) < (N : Int) := by omega
  have i3 : (3 : Int) < (N : Int) := by omega
  rw [Nat.add_zero] at h0
  go_enter Tryz.func119, Tryz.ntmps119
  go_wp2_with fail
  go_quiet (fail)
  go_wp2_with fail
  go_ret
  exact ⟨rfl, (Fr.refl _ _).drewN _⟩
/-- What is found where a frame is looked for: its payload's size, and 0 whole, 1 torn, 2 broken. -/
def lookL (l : List Nat) (most : Nat) : Nat × Nat :=
  if l.length < 12 then (0, 1)
  else if num4 (l.drop 4) ≠ num4 l ^^^ 4294967295 ∨ most < num4 l then (0, 2)
  else if l.length - 12 < num4 l then (0, 1)
  else if num4 (l.drop 8) ≠ Sm (Sm 0 (l.take 8)) ((l.drop 12).take (num4 l)) then (0, 2)
  else (num4 l, 0)
theorem num4_lt (l : List Nat) : num4 l < 4294967296 := by
  have a := Nat.mod_lt (l.getD 0 0) (by decide : 0 < 256)
  have b := Nat.mod_lt (l.getD 1 0) (by decide : 0 < 256)
  have c := Nat.mod_lt (l.getD 2 0) (by decide : 0 < 256)
  have d := Nat.mod_lt (l.getD 3 0) (by decide : 0 < 256)
  simp only [num4]
  omega
end Go.Proofs.YtmmaddlphclpnaaGreatDoor

namespace Go.Proofs.YtmmaddlphclpnaaGreatDoor
open Go.RowKit Go.ChangeShapes Go.WideShapes Go.Maps Go.Sort

/-- Some bytes of a slice, from a place on. -/
theorem Src.dropC {w : World} {g o n c k : Nat} {l : List Nat} (h : Src w (.slice (some ⟨g, o, none⟩) n c) l) (hn : l.length = n) (hk : k ≤ n) (c' : Nat) : Src w (.slice (some ⟨g, o + k, none⟩) (n - k) c') (l.drop k) := by
  by_cases h0 : n - k = 0
  · have e : l.drop k = [] := List.eq_nil_of_length_eq_zero (by rw [List.length_drop]; omega)
    rw [h0, e]
    exact .inr (.inr ⟨_, c', rfl, rfl⟩)
  · refine .inr (.inl ⟨g, o + k, c', by rw [List.length_drop, hn], fun j v hv => ?_⟩)
    have hj : j < n - k := by
      have := (List.getElem?_eq_some_iff.1 hv).1
      simp [cellsOf] at this
      omega
    have hc := src_cell h (k + j) (by omega)
    rw [Nat.add_assoc, hc, ← hv]
    simp [cellsOf, B, show k + j < l.length by omega]
theorem Src.takeC {w : World} {g o n c k : Nat} {l : List Nat} (h : Src w (.slice (some ⟨g, o, none⟩) n c) l) (hn : l.length = n) (hk : k ≤ n) (c' : Nat) : Src w (.slice (some ⟨g, o, none⟩) k c') (l.take k) := by
  have hl : (l.take k).length = k := by rw [List.length_take]; omega
  by_cases h0 : k = 0
  · subst h0
    exact .inr (.inr ⟨_, c', rfl, by simp⟩)
  · refine .inr (.inl ⟨g, o, c', by rw [hl], fun j v hv => ?_⟩)
    have hj : j < k := by
      have := (List.getElem?_eq_some_iff.1 hv).1
      simp [cellsOf] at this
      omega
    have hc := src_cell h j (by omega)
    rw [hc, ← hv]
    simp [cellsOf, B, hj, show j < l.length by omega]
set_option maxHeartbeats 1000000 in
set_option maxRecDepth 100000 in
theorem look_short (xo : Option Addr) (xc N : Nat) (most : Int) (w : World) (h : N < 12) :
    Calls Tryz.prog 102 #[.slice xo N xc, .int .i64 most] w fun e w' => e = .returned (.tuple #[.int .i64 0, .int .i64 1]) ∧ w' = w := by
  go_enter Tryz.func102, Tryz.ntmps102
  go_wp2
  go_ret2
  exact ⟨rfl, rfl⟩
set_option maxHeartbeats 1000000 in
set_option maxRecDepth 100000 in
theorem look_a (g o N xc most : Nat) (l : List Nat) (w : World) (hx : Src w (.slice (some ⟨g, o, none⟩) N xc) l) (hl : l.length = N) (hc : N ≤ xc) (h12 : 12 ≤ N) (hN : N ≤ 1048576) (hm : most < 4294967296) (hbad : num4 (l.drop 4) ≠ num4 l ^^^ 4294967295) :
    Calls Tryz.prog 102 #[.slice (some ⟨g, o, none⟩) N xc, .int .i64 (most : Nat)] w fun e w' => e = .returned (.tuple #[.int .i64 0, .int .i64 2]) ∧ Fr (fun _ => False) w w' := by
  have HN1 := hide (number_any _ l w hx (by omega))
  have HN2 : Hid (∀ W, Fr (fun _ => False) w W → Calls Tryz.prog 119 #[.slice (some ⟨g, o + 4, none⟩) (N - 4) (xc - 4)] W fun e w' => e = .returned (.int .u32 (num4 (l.drop 4) : Nat)) ∧ Fr (fun _ => False) w w') := fun W hf =>
    (number_any _ (l.drop 4) W ((hx.dropC hl (by omega) (xc - 4)).fr0 hf) (by rw [List.length_drop]; omega)).mono (fun e w' h => ⟨h.1, hf.trans h.2 (fun _ _ h => h)⟩)
  have hlt := num4_lt l
  have hnt : bits .xor .u32 IntKind.u32.max ((num4 l : Nat) : Int) = ((num4 l ^^^ 4294967295 : Nat) : Int) := not_u32 _ hlt
  have hwm : IntKind.u32.wrap (most : Int) = (most : Int) := by rw [IntKind.wrap_u32]; omega
  obtain ⟨n1, hn1⟩ : ∃ n1, n1 = num4 l := ⟨_, rfl⟩
  obtain ⟨n2, hn2⟩ : ∃ n2, n2 = num4 (l.drop 4) := ⟨_, rfl⟩
  obtain ⟨n3, hn3⟩ : ∃ n3, n3 = num4 l ^^^ 4294967295 := ⟨_, rfl⟩
  rw [← hn3] at hnt
  rw [← hn1] at HN1 hnt hlt
  rw [← hn2] at HN2
  have hb : ¬ n2 = n3 := by rw [hn2, hn3]; exact hbad
  have hb' : ¬ ((n2 : Int) = (n3 : Int)) := by omega
  have hb2 : ((n2 : Int) != (n3 : Int)) = true := by simp only [bne_iff_ne, ne_eq]; exact hb'
  clear hn1 hn2 hn3 hx hl hbad hb
  have hx4 : ¬ xc = 4 := by omega
  have hx4' : (4 : Int) ≤ (xc : Int) := by omega
  have hx5 : (4 : Int) ≤ (N : Int) := by omega
  go_enter Tryz.func102, Tryz.ntmps102
  go_wp2_with fail
  refine (unhide HN1).mono ?_
  rintro e w1 ⟨rfl, hf1⟩
  have HF1 := hide hf1
  clear hf1
  go_wp2_with fail
  refine ((unhide HN2) _ (unhide HF1)).mono ?_
  rintro e w2 ⟨rfl, hf2⟩
  have HF2 := hide hf2
  clear hf2
  go_wp2_with fail
  go_ret2
  exact ⟨rfl, unhide HF2⟩
set_option maxHeartbeats 1000000 in
set_option maxRecDepth 100000 in
theorem look_b (g o N xc most : Nat) (l : List Nat) (w : World) (hx : Src w (.slice (some ⟨g, o, none⟩) N xc) l) (hl : l.length = N) (hc : N ≤ xc) (h12 : 12 ≤ N) (hN : N ≤ 1048576) (hm : most < 4294967296) (hgood : num4 (l.drop 4) = num4 l ^^^ 4294967295) (hbad : most < num4 l) :
    Calls Tryz.prog 102 #[.slice (some ⟨g, o, none⟩) N xc, .int .i64 (most : Nat)] w fun e w' => e = .returned (.tuple #[.int .i64 0, .int .i64 2]) ∧ Fr (fun _ => False) w w' := by
  have HN1 := hide (number_any _ l w hx (by omega))
  have HN2 : Hid (∀ W, Fr (fun _ => False) w W → Calls Tryz.prog 119 #[.slice (some ⟨g, o + 4, none⟩) (N - 4) (xc - 4)] W fun e w' => e = .returned (.int .u32 (num4 (l.drop 4) : Nat)) ∧ Fr (fun _ => False) w w') := fun W hf =>
    (number_any _ (l.drop 4) W ((hx.dropC hl (by omega) (xc - 4)).fr0 hf) (by rw [List.length_drop]; omega)).mono (fun e w' h => ⟨h.1, hf.trans h.2 (fun _ _ h => h)⟩)
  have hlt := num4_lt l
  have hnt : bits .xor .u32 IntKind.u32.max ((num4 l : Nat) : Int) = ((num4 l ^^^ 4294967295 : Nat) : Int) := not_u32 _ hlt
  have hwm : IntKind.u32.wrap (most : Int) = (most : Int) := by rw [IntKind.wrap_u32]; omega
  obtain ⟨n1, hn1⟩ : ∃ n1, n1 = num4 l := ⟨_, rfl⟩
  obtain ⟨n2, hn2⟩ : ∃ n2, n2 = num4 (l.drop 4) := ⟨_, rfl⟩
  obtain ⟨n3, hn3⟩ : ∃ n3, n3 = num4 l ^^^ 4294967295 := ⟨_, rfl⟩
  rw [← hn3] at hnt
  rw [← hn1] at HN1 hnt hlt
  rw [← hn2] at HN2
  have hb : n2 = n3 := by rw [hn2, hn3]; exact hgood
  have hb2 : most < n1 := by rw [hn1]; exact hbad
  clear hn1 hn2 hn3 hx hl hgood hbad
  subst hb
  have hb3 : (most : Int) < (n1 : Int) := by omega
  have hx4 : ¬ xc = 4 := by omega
  have hx4' : (4 : Int) ≤ (xc : Int) := by omega
  have hx5 : (4 : Int) ≤ (N : Int) := by omega
  go_enter Tryz.func102, Tryz.ntmps102
  go_wp2_with fail
  refine (unhide HN1).mono ?_
  rintro e w1 ⟨rfl, hf1⟩
  have HF1 := hide hf1
  clear hf1
  go_wp2_with fail
  refine ((unhide HN2) _ (unhide HF1)).mono ?_
  rintro e w2 ⟨rfl, hf2⟩
  have HF2 := hide hf2
  clear hf2
  go_wp2_with fail
  go_ret2
  exact ⟨rfl, unhide HF2⟩
set_option maxHeartbeats 1000000 in
set_option maxRecDepth 100000 in
theorem look_c (g o N xc most : Nat) (l : List Nat) (w : World) (hx : Src w (.slice (some ⟨g, o, none⟩) N xc) l) (hl : l.length = N) (hc : N ≤ xc) (h12 : 12 ≤ N) (hN : N ≤ 1048576) (hm : most < 4294967296) (hgood : num4 (l.drop 4) = num4 l ^^^ 4294967295) (hok : num4 l ≤ most) (htorn : N - 12 < num4 l) :
    Calls Tryz.prog 102 #[.slice (some ⟨g, o, none⟩) N xc, .int .i64 (most : Nat)] w fun e w' => e = .returned (.tuple #[.int .i64 0, .int .i64 1]) ∧ Fr (fun _ => False) w w' := by
  have HN1 := hide (number_any _ l w hx (by omega))
  have HN2 : Hid (∀ W, Fr (fun _ => False) w W → Calls Tryz.prog 119 #[.slice (some ⟨g, o + 4, none⟩) (N - 4) (xc - 4)] W fun e w' => e = .returned (.int .u32 (num4 (l.drop 4) : Nat)) ∧ Fr (fun _ => False) w w') := fun W hf =>
    (number_any _ (l.drop 4) W ((hx.dropC hl (by omega) (xc - 4)).fr0 hf) (by rw [List.length_drop]; omega)).mono (fun e w' h => ⟨h.1, hf.trans h.2 (fun _ _ h => h)⟩)
  have hlt := num4_lt l
  have hnt : bits .xor .u32 IntKind.u32.max ((num4 l : Nat) : Int) = ((num4 l ^^^ 4294967295 : Nat) : Int) := not_u32 _ hlt
  have hwm : IntKind.u32.wrap (most : Int) = (most : Int) := by rw [IntKind.wrap_u32]; omega
  obtain ⟨n1, hn1⟩ : ∃ n1, n1 = num4 l := ⟨_, rfl⟩
  obtain ⟨n2, hn2⟩ : ∃ n2, n2 = num4 (l.drop 4) := ⟨_, rfl⟩
  obtain ⟨n3, hn3⟩ : ∃ n3, n3 = num4 l ^^^ 4294967295 := ⟨_, rfl⟩
  rw [← hn3] at hnt
  rw [← hn1] at HN1 hnt hlt
  rw [← hn2] at HN2
  have hb : n2 = n3 := by rw [hn2, hn3]; exact hgood
  have hb2 : n1 ≤ most := by rw [hn1]; exact hok
  have ht : N - 12 < n1 := by rw [hn1]; exact htorn
  clear hn1 hn2 hn3 hx hl hgood hok htorn
  subst hb
  have hb3 : ¬ (most : Int) < (n1 : Int) := by omega
  have hx12 : (12 : Int) ≤ (xc : Int) := by omega
  have hx13 : (12 : Int) ≤ (N : Int) := by omega
  have ht2 : (N : Int) - 12 < (n1 : Int) := by omega
  have ht3 : ((N - 12 : Nat) : Int) < (n1 : Int) := by omega
  have hx4 : ¬ xc = 4 := by omega
  have hx4' : (4 : Int) ≤ (xc : Int) := by omega
  have hx5 : (4 : Int) ≤ (N : Int) := by omega
  by_cases hxc : xc = 12
  · subst hxc
    obtain rfl : N = 12 := by omega
    go_enter Tryz.func102, Tryz.ntmps102
    go_wp2_with fail
    refine (unhide HN1).mono ?_
    rintro e w1 ⟨rfl, hf1⟩
    have HF1 := hide hf1
    clear hf1
    go_wp2_with fail
    refine ((unhide HN2) _ (unhide HF1)).mono ?_
    rintro e w2 ⟨rfl, hf2⟩
    have HF2 := hide hf2
    clear hf2
    go_wp2_with fail
    go_quiet (fail)
    go_wp2_with fail
    go_ret2
    exact ⟨rfl, (unhide HF2).drewN _⟩
  · have hxc' : (12 : Int) < (xc : Int) := by omega
    go_enter Tryz.func102, Tryz.ntmps102
    go_wp2_with fail
    refine (unhide HN1).mono ?_
    rintro e w1 ⟨rfl, hf1⟩
    have HF1 := hide hf1
    clear hf1
    go_wp2_with fail
    refine ((unhide HN2) _ (unhide HF1)).mono ?_
    rintro e w2 ⟨rfl, hf2⟩
    have HF2 := hide hf2
    clear hf2
    go_wp2_with fail
    go_quiet (fail)
    go_wp2_with fail
    go_ret2
    exact ⟨rfl, (unhide HF2).drewN _⟩
end Go.Proofs.YtmmaddlphclpnaaGreatDoor

namespace Go.Proofs.YtmmaddlphclpnaaGreatDoor
open Go.RowKit Go.ChangeShapes Go.WideShapes Go.Maps Go.Sort

set_option maxHeartbeats 1000000 in
set_option maxRecDepth 100000 in
theorem look_d (g o N xc most : Nat) (l : List Nat) (w : World) (hx : Src w (.slice (some ⟨g, o, none⟩) N xc) l) (hl : l.length = N) (hc : N ≤ xc) (h12 : 12 ≤ N) (hN : N ≤ 1048576) (hm : most < 4294967296) (hgood : num4 (l.drop 4) = num4 l ^^^ 4294967295) (hok : num4 l ≤ most) (hfit : num4 l ≤ N - 12) (r sz : Nat) (hr : (num4 (l.drop 8) = Sm (Sm 0 (l.take 8)) ((l.drop 12).take (num4 l)) ∧ r = 0 ∧ sz = num4 l) ∨ (num4 (l.drop 8) ≠ Sm (Sm 0 (l.take 8)) ((l.drop 12).take (num4 l)) ∧ r = 2 ∧ sz = 0)) :
    Calls Tryz.prog 102 #[.slice (some ⟨g, o, none⟩) N xc, .int .i64 (most : Nat)] w fun e w' => e = .returned (.tuple #[.int .i64 (sz : Nat), .int .i64 (r : Nat)]) ∧ Fr (fun _ => False) w w' := by
  have HN1 := hide (number_any _ l w hx (by omega))
  have HN2 : Hid (∀ W, Fr (fun _ => False) w W → Calls Tryz.prog 119 #[.slice (some ⟨g, o + 4, none⟩) (N - 4) (xc - 4)] W fun e w' => e = .returned (.int .u32 (num4 (l.drop 4) : Nat)) ∧ Fr (fun _ => False) w w') := fun W hf =>
    (number_any _ (l.drop 4) W ((hx.dropC hl (by omega) (xc - 4)).fr0 hf) (by rw [List.length_drop]; omega)).mono (fun e w' h => ⟨h.1, hf.trans h.2 (fun _ _ h => h)⟩)
  have hlt := num4_lt l
  have hnt : bits .xor .u32 IntKind.u32.max ((num4 l : Nat) : Int) = ((num4 l ^^^ 4294967295 : Nat) : Int) := not_u32 _ hlt
  have hwm : IntKind.u32.wrap (most : Int) = (most : Int) := by rw [IntKind.wrap_u32]; omega
  obtain ⟨n1, hn1⟩ : ∃ n1, n1 = num4 l := ⟨_, rfl⟩
  obtain ⟨n2, hn2⟩ : ∃ n2, n2 = num4 (l.drop 4) := ⟨_, rfl⟩
  obtain ⟨n3, hn3⟩ : ∃ n3, n3 = num4 l ^^^ 4294967295 := ⟨_, rfl⟩
  rw [← hn3] at hnt
  rw [← hn1] at HN1 hnt hlt
  rw [← hn2] at HN2
  have hb : n2 = n3 := by rw [hn2, hn3]; exact hgood
  have hb2 : n1 ≤ most := by rw [hn1]; exact hok
  have hfi : n1 ≤ N - 12 := by rw [hn1]; exact hfit
  have HN8 : Hid (∀ W, Fr (fun _ => False) w W → Calls Tryz.prog 119 #[.slice (some ⟨g, o + 8, none⟩) (N - 8) (xc - 8)] W fun e w' => e = .returned (.int .u32 (num4 (l.drop 8) : Nat)) ∧ Fr (fun _ => False) w w') := fun W hf =>
    (number_any _ (l.drop 8) W ((hx.dropC hl (by omega) (xc - 8)).fr0 hf) (by rw [List.length_drop]; omega)).mono (fun e w' h => ⟨h.1, hf.trans h.2 (fun _ _ h => h)⟩)
  have HSU : Hid (∀ W Y, Fr (fun _ => False) w W → Y = Value.slice (some ⟨g, o + 12, none⟩) n1 (xc - 12) ∨ (n1 = 0 ∧ Y = Value.slice (some ⟨g, o, none⟩) 0 0) → Calls Tryz.prog 83 #[.slice (some ⟨g, o, none⟩) 8 xc, Y] W fun e w' => e = .returned (.int .u32 (Sm (Sm 0 (l.take 8)) ((l.drop 12).take n1) : Nat)) ∧ Fr (fun _ => False) w w') := fun W Y hf hY => by
    have h1 : Src W (.slice (some ⟨g, o, none⟩) 8 xc) (l.take 8) := (hx.takeC hl (by omega) xc).fr0 hf
    have h2 : Src W Y ((l.drop 12).take n1) := by
      rcases hY with rfl | ⟨e, rfl⟩
      · exact ((hx.dropC hl (by omega : 12 ≤ N) (xc - 12)).takeC (by rw [List.length_drop, hl]) hfi (xc - 12)).fr0 hf
      · rw [e]
        exact .inr (.inr ⟨_, 0, rfl, by simp⟩)
    exact (wsum_any _ _ _ _ W h1 h2 (by rw [List.length_take]; omega) (by rw [List.length_take, List.length_drop]; omega)).mono (fun e w' h => ⟨h.1, hf.trans h.2 (fun _ _ h => h)⟩)
  obtain ⟨n8, hn8⟩ : ∃ n8, n8 = num4 (l.drop 8) := ⟨_, rfl⟩
  obtain ⟨sm, hsm⟩ : ∃ sm, sm = Sm (Sm 0 (l.take 8)) ((l.drop 12).take n1) := ⟨_, rfl⟩
  rw [← hn8] at HN8 hr
  rw [← hsm] at HSU
  rw [← hn1, ← hsm] at hr
  clear hn1 hn2 hn3 hx hl hgood hok hfit hn8 hsm
  subst hb
  have hb3 : ¬ (most : Int) < (n1 : Int) := by omega
  have hx12 : (12 : Int) ≤ (xc : Int) := by omega
  have hx13 : (12 : Int) ≤ (N : Int) := by omega
  have ht2 : ¬ ((N : Int) - 12 < (n1 : Int)) := by omega
  have ht3 : ¬ (((N - 12 : Nat) : Int) < (n1 : Int)) := by omega
  have hx8 : (8 : Int) ≤ (xc : Int) := by omega
  have hx8' : ¬ xc = 8 := by omega
  have hx8n : (8 : Int) ≤ (N : Int) := by omega
  have hx4 : ¬ xc = 4 := by omega
  have hx4' : (4 : Int) ≤ (xc : Int) := by omega
  have hx5 : (4 : Int) ≤ (N : Int) := by omega
  have HR := hide hr
  clear hr
  by_cases hxc : xc = 12
  · subst hxc
    obtain rfl : N = 12 := by omega
    obtain rfl : n1 = 0 := by omega
    replace hnt : bits .xor .u32 IntKind.u32.max 0 = (n2 : Int) := hnt
    go_enter Tryz.func102, Tryz.ntmps102
    go_wp2_with fail
    refine (unhide HN1).mono ?_
    rintro e w1 ⟨rfl, hf1⟩
    have HF1 := hide hf1
    clear hf1
    go_wp2_with fail
    refine ((unhide HN2) _ (unhide HF1)).mono ?_
    rintro e w2 ⟨rfl, hf2⟩
    have HF2 := hide hf2
    clear hf2
    go_wp2_with fail
    clear hnt
    go_quiet (fail)
    go_wp2_with fail
    go_region_held3 (fun w' => Fr (fun _ => False) w w')
      (first | exact ((unhide HF2).drewN _).drew | exact hf3 | exact unhide HF4)
      (first
        | (go_at_call 119; refine ((unhide HN8) _ ((unhide HF2).drewN _).drew).mono ?_; rintro e w3 ⟨rfl, hf3⟩; clear HN8)
        | (go_at_call 83; refine ((unhide HSU) _ _ hf3 (by first | exact .inr ⟨rfl, rfl⟩ | exact .inr ⟨trivial, rfl⟩ | exact .inr rfl)).mono ?_; rintro e w4 ⟨rfl, hf4⟩; clear HSU; have HF4 := hide hf4; clear hf4))
    rcases unhide HR with ⟨e1, e2, e3⟩ | ⟨e1, e2, e3⟩
    · subst e1
      subst e2
      subst e3
      go_wp2_with fail
      go_ret2
      exact ⟨rfl, unhide HF4⟩
    · subst e2
      subst e3
      have e1' : ¬ ((n8 : Int) = (sm : Int)) := by omega
      have e1b : ((n8 : Int) != (sm : Int)) = true := by simp only [bne_iff_ne, ne_eq]; exact e1'
      go_wp2_with fail
      go_ret2
      exact ⟨rfl, unhide HF4⟩
  · have hxc' : (12 : Int) < (xc : Int) := by omega
    obtain ⟨R, hR⟩ : ∃ R, N - 12 = R := ⟨_, rfl⟩
    obtain ⟨C, hC⟩ : ∃ C, xc - 12 = C := ⟨_, rfl⟩
    have hRn : n1 ≤ R := by omega
    have hCn : n1 ≤ C := by omega
    rw [hR] at ht3
    rw [hC] at HSU
    go_enter Tryz.func102, Tryz.ntmps102
    go_wp2_with fail
    refine (unhide HN1).mono ?_
    rintro e w1 ⟨rfl, hf1⟩
    have HF1 := hide hf1
    clear hf1
    go_wp2_with fail
    refine ((unhide HN2) _ (unhide HF1)).mono ?_
    rintro e w2 ⟨rfl, hf2⟩
    have HF2 := hide hf2
    clear hf2
    go_wp2_with fail
    clear hnt
    go_quiet (fail)
    go_wp2_with fail
    go_region_held3 (fun w' => Fr (fun _ => False) w w')
      (first | exact ((unhide HF2).drewN _).drew | exact hf3 | exact unhide HF4)
      (first
        | (go_at_call 119; refine ((unhide HN8) _ ((unhide HF2).drewN _).drew).mono ?_; rintro e w3 ⟨rfl, hf3⟩; clear HN8)
        | (go_at_call 83; refine ((unhide HSU) _ _ hf3 (.inl rfl)).mono ?_; rintro e w4 ⟨rfl, hf4⟩; clear HSU; have HF4 := hide hf4; clear hf4))
    rcases unhide HR with ⟨e1, e2, e3⟩ | ⟨e1, e2, e3⟩
    · subst e1
      subst e2
      subst e3
      go_wp2_with fail
      go_ret2
      exact ⟨rfl, unhide HF4⟩
    · subst e2
      subst e3
      have e1' : ¬ ((n8 : Int) = (sm : Int)) := by omega
      have e1b : ((n8 : Int) != (sm : Int)) = true := by simp only [bne_iff_ne, ne_eq]; exact e1'
      go_wp2_with fail
      go_ret2
      exact ⟨rfl, unhide HF4⟩
end Go.Proofs.YtmmaddlphclpnaaGreatDoor

namespace Go.Proofs.YtmmaddlphclpnaaGreatDoor
open Go.RowKit Go.ChangeShapes Go.WideShapes Go.Maps Go.Sort

/-- look. -/
theorem look_any (xo : Option Addr) (N xc most : Nat) (l : List Nat) (w : World) (hx : Src w (.slice xo N xc) l) (hl : l.length = N) (hc : N ≤ xc) (hN : N ≤ 1048576) (hm : most < 4294967296) :
    Calls Tryz.prog 102 #[.slice xo N xc, .int .i64 (most : Nat)] w fun e w' => e = .returned (.tuple #[.int .i64 ((lookL l most).1 : Nat), .int .i64 ((lookL l most).2 : Nat)]) ∧ Fr (fun _ => False) w w' := by
  by_cases h12 : N < 12
  · have e : lookL l most = (0, 1) := by rw [lookL, if_pos (by omega)]
    rw [e]
    exact (look_short xo xc N most w h12).mono (fun e w' h => ⟨h.1, by rw [h.2]; exact Fr.refl _ _⟩)
  · have hn12 : ¬ l.length < 12 := by omega
    obtain ⟨g, o, rfl, _⟩ := src_at hx 0 (by omega)
    by_cases hg : num4 (l.drop 4) = num4 l ^^^ 4294967295
    · by_cases hb : most < num4 l
      · have e : lookL l most = (0, 2) := by rw [lookL, if_neg hn12, if_pos (.inr hb)]
        rw [e]
        exact look_b g o N xc most l w hx hl hc (by omega) hN hm hg hb
      · have hor : ¬ (num4 (l.drop 4) ≠ num4 l ^^^ 4294967295 ∨ most < num4 l) := fun h => h.elim (fun h => h hg) hb
        by_cases ht : N - 12 < num4 l
        · have e : lookL l most = (0, 1) := by rw [lookL, if_neg hn12, if_neg hor, if_pos (by rw [hl]; exact ht)]
          rw [e]
          exact look_c g o N xc most l w hx hl hc (by omega) hN hm hg (by omega) ht
        · have hnt : ¬ l.length - 12 < num4 l := by rw [hl]; exact ht
          by_cases hs : num4 (l.drop 8) = Sm (Sm 0 (l.take 8)) ((l.drop 12).take (num4 l))
          · have e : lookL l most = (num4 l, 0) := by rw [lookL, if_neg hn12, if_neg hor, if_neg hnt, if_neg (fun h => h hs)]
            rw [e]
            exact look_d g o N xc most l w hx hl hc (by omega) hN hm hg (by omega) (by omega) 0 (num4 l) (.inl ⟨hs, rfl, rfl⟩)
          · have e : lookL l most = (0, 2) := by rw [lookL, if_neg hn12, if_neg hor, if_neg hnt, if_pos hs]
            rw [e]
            exact look_d g o N xc most l w hx hl hc (by omega) hN hm hg (by omega) (by omega) 2 0 (.inr ⟨hs, rfl, rfl⟩)
    · have e : lookL l most = (0, 2) := by rw [lookL, if_neg hn12, if_pos (.inl hg)]
      rw [e]
      exact look_a g o N xc most l w hx hl hc (by omega) hN hm hg
/-- What holds where a scope of the labels 0 and 1 is left by a jump. -/
def jump2 (J : Nat → Act → World → Prop) (Q : Exit → Act → World → Prop) : Exit → Act → World → Prop
  | .goto l, a, w => l < 2 ∧ J l a w
  | e, a, w => Q e a w
/-- A scope with two labels: what holds at each jump, and a measure that sinks. -/
theorem wp_scope_jumps2 {P : Program} {a : Act} {w : World} {Q : Exit → Act → World → Prop} {c rest0 rest1 : Code} (J : Nat → Act → World → Prop) (μ : Nat → Act → World → Nat) (hf0 : findLabel c 0 = some rest0) (hf1 : findLabel c 1 = some rest1)
    (first : c.wp P (jump2 J Q) a w)
    (pass0 : ∀ a w, J 0 a w → rest0.wp P (jump2 (fun l' a' w' => J l' a' w' ∧ μ l' a' w' < μ 0 a w) Q) a w)
    (pass1 : ∀ a w, J 1 a w → rest1.wp P (jump2 (fun l' a' w' => J l' a' w' ∧ μ l' a' w' < μ 1 a w) Q) a w) : (Code.scope c).wp P Q a w := by
  intro b k cs
  obtain ⟨rest, hrest⟩ : ∃ rest : Nat → Code, rest = fun l => if l = 0 then rest0 else rest1 := ⟨_, rfl⟩
  have hf : ∀ l, l < 2 → findLabel c l = some (rest l) := fun l hl => by
    rw [hrest]
    by_cases h : l = 0
    · subst h; exact hf0
    · have : l = 1 := by omega
      subst this; exact hf1
  have hg : ∀ l, l < 2 → gotoIn l (.inScope c :: k) = some (.code (rest l) :: .inScope c :: k) := fun l hl => by simp [gotoIn, hf l hl]
  have pass : ∀ l a w, l < 2 → J l a w → (rest l).wp P (jump2 (fun l' a' w' => J l' a' w' ∧ μ l' a' w' < μ l a w) Q) a w := fun l a w hl hJ => by
    rw [hrest]
    by_cases h : l = 0
    · subst h; exact pass0 a w hJ
    · have : l = 1 := by omega
      subst this; exact pass1 a w hJ
  have key : ∀ n l a w, l < 2 → μ l a w = n → J l a w → ∃ e a' w', Q e a' w' ∧ Arrives P (lone (b.at a (.code (rest l) :: .inScope c :: k)) cs w) b k cs e a' w' := by
    intro n
    induction n using Nat.strongRecOn with
    | _ n ih =>
      intro l a w hl hn hJ
      obtain ⟨e, a₁, w₁, hq, harr⟩ := pass l a w hl hJ b (.inScope c :: k) cs
      cases e with
      | normal => exact ⟨.normal, a₁, w₁, hq, Steps.trans harr (.one step_inScope)⟩
      | exit id => exact ⟨.exit id, a₁, w₁, hq, fun k' hk => harr k' (by simp [exitTo, hk])⟩
      | goto l' =>
        obtain ⟨hl', hJ', hlt⟩ := hq
        obtain ⟨e₂, a₂, w₂, hq₂, harr₂⟩ := ih _ (by omega) l' a₁ w₁ hl' rfl hJ'
        exact ⟨e₂, a₂, w₂, hq₂, .of_steps (harr _ (hg l' hl')) harr₂⟩
      | ret => exact ⟨_, a₁, w₁, hq, harr⟩
      | panic ch => exact ⟨_, a₁, w₁, hq, harr⟩
      | outgrown => exact ⟨_, a₁, w₁, hq, harr⟩
  obtain ⟨e, a₁, w₁, hq, harr⟩ := first b (.inScope c :: k) cs
  cases e with
  | normal => exact ⟨.normal, a₁, w₁, hq, .head step_scope (Steps.trans harr (.one step_inScope))⟩
  | exit id => exact ⟨.exit id, a₁, w₁, hq, fun k' hk => .head step_scope (harr k' (by simp [exitTo, hk]))⟩
  | goto l' =>
    obtain ⟨hl', hJ'⟩ := hq
    obtain ⟨e₂, a₂, w₂, hq₂, harr₂⟩ := key _ l' a₁ w₁ hl' rfl hJ'
    exact ⟨e₂, a₂, w₂, hq₂, .of_steps (.head step_scope (harr _ (hg l' hl'))) harr₂⟩
  | ret => exact ⟨_, a₁, w₁, hq, .of_steps (.one step_scope) harr⟩
  | panic ch => exact ⟨_, a₁, w₁, hq, .of_steps (.one step_scope) harr⟩
  | outgrown => exact ⟨_, a₁, w₁, hq, .of_steps (.one step_scope) harr⟩
end Go.Proofs.YtmmaddlphclpnaaGreatDoor

namespace Go.Proofs.YtmmaddlphclpnaaGreatDoor
open Go.RowKit Go.ChangeShapes Go.WideShapes Go.Maps Go.Sort

/-- A frame of n bytes is taken in, into the last segment. -/
def LM.took (L : LM) (n : Nat) : LM := { L with segs := L.segs.dropLast ++ [L.segs.getLastD 0 + (12 + n)], pls := L.pls ++ [(L.segs.dropLast.length, L.segs.getLastD 0 + 12, n)] }
/-- What is taken in of a segment's rest; 0 where it ends whole, 1 torn, 2 broken. -/
def frm (most : Nat) : Nat → List Nat → LM → LM × Nat
  | 0, _, L => (L, 0)
  | f + 1, r, L => if r = [] then (L, 0) else if (lookL r most).2 = 0 then frm most f (r.drop (12 + (lookL r most).1)) (L.took (lookL r most).1) else (L, (lookL r most).2)
/-- What a scan takes in, N segments being there, and whether it is a log. -/
def scn (B : Nat → List Nat) (N most : Nat) : Nat → LM → LM × Bool
  | 0, L => (L, true)
  | f + 1, L =>
    if L.segs.length < N then
      let p := frm most ((B L.segs.length).length + 1) (B L.segs.length) { L with segs := L.segs ++ [0] }
      if p.2 = 0 then scn B N most f p.1 else if p.2 = 2 then (p.1, false) else (p.1, decide (N ≤ p.1.segs.length))
    else (L, true)
def fin (B : Nat → List Nat) (N most f : Nat) (p : LM × Nat) : LM × Bool := if p.2 = 0 then scn B N most f p.1 else if p.2 = 2 then (p.1, false) else (p.1, decide (N ≤ p.1.segs.length))
theorem scn_go (B : Nat → List Nat) (N most f : Nat) (L : LM) (h : L.segs.length < N) : scn B N most (f + 1) L = fin B N most f (frm most ((B L.segs.length).length + 1) (B L.segs.length) { L with segs := L.segs ++ [0] }) := by
  rw [scn, if_pos h]
  rfl
theorem scn_end (B : Nat → List Nat) (N most f : Nat) (L : LM) (h : ¬ L.segs.length < N) : scn B N most f L = (L, true) := by
  cases f with
  | zero => rfl
  | succ f => rw [scn, if_neg h]
theorem took_eq (L : LM) (ss : List Nat) (x n : Nat) (h : L.segs = ss ++ [x]) : L.took n = { L with segs := ss ++ [x + (12 + n)], pls := L.pls ++ [(ss.length, x + 12, n)] } := by
  simp [LM.took, h]
/-- The bytes of the first k segments. -/
def tot (B : Nat → List Nat) : Nat → Nat
  | 0 => 0
  | k + 1 => tot B k + (B k).length
theorem tot_mono (B : Nat → List Nat) : ∀ {i j : Nat}, i ≤ j → tot B i ≤ tot B j := by
  intro i j h
  induction j with
  | zero => obtain rfl : i = 0 := by omega
            exact Nat.le_refl _
  | succ j ih =>
    rcases Nat.lt_or_ge i (j + 1) with h1 | h1
    · have := ih (by omega)
      simp only [tot]; omega
    · obtain rfl : i = j + 1 := by omega
      exact Nat.le_refl _
end Go.Proofs.YtmmaddlphclpnaaGreatDoor

namespace Go.Proofs.YtmmaddlphclpnaaGreatDoor
open Go.RowKit Go.ChangeShapes Go.WideShapes Go.Maps Go.Sort

theorem num4_nb4 (n : Nat) (h : n < 4294967296) (r : List Nat) : num4 (nb4 n ++ r) = n := by
  simp only [nb4, num4, List.cons_append, List.getD_cons_zero, List.getD_cons_succ, Nat.mod_mod]
  omega
theorem not32_lt (n : Nat) (h : n < 4294967296) : n ^^^ 4294967295 < 4294967296 := Nat.xor_lt_two_pow (n := 32) h (by decide)
theorem Sm2_lt (a b : List Nat) : Sm (Sm 0 a) b < 4294967296 := Sm_lt _ _ (Sm_lt _ _ (by decide))
theorem frame_eq (p : List Nat) : frame p = nb4 p.length ++ (nb4 (p.length ^^^ 4294967295) ++ (nb4 (Sm (Sm 0 (hd8 p.length)) p) ++ p)) := by
  simp only [frame, hd8, List.append_assoc]
/-- A frame is found whole. -/
theorem look_frame (p r : List Nat) (most : Nat) (hp : p.length ≤ most) (h32 : p.length < 4294967296) : lookL (frame p ++ r) most = (p.length, 0) := by
  have e : frame p ++ r = nb4 p.length ++ (nb4 (p.length ^^^ 4294967295) ++ (nb4 (Sm (Sm 0 (hd8 p.length)) p) ++ (p ++ r))) := by rw [frame_eq]; simp only [List.append_assoc]
  have n0 : num4 (frame p ++ r) = p.length := by rw [e]; exact num4_nb4 _ h32 _
  have n4 : num4 ((frame p ++ r).drop 4) = p.length ^^^ 4294967295 := by rw [e, List.drop_left' (nb4_len _)]; exact num4_nb4 _ (not32_lt _ h32) _
  have e8 : frame p ++ r = hd8 p.length ++ (nb4 (Sm (Sm 0 (hd8 p.length)) p) ++ (p ++ r)) := by simp only [frame, List.append_assoc]
  have n8 : num4 ((frame p ++ r).drop 8) = Sm (Sm 0 (hd8 p.length)) p := by rw [e8, List.drop_left' (hd8_len _)]; exact num4_nb4 _ (Sm2_lt _ _) _
  have t8 : (frame p ++ r).take 8 = hd8 p.length := by rw [e8, List.take_left' (hd8_len _)]
  have d12 : ((frame p ++ r).drop 12).take p.length = p := by
    have e12 : frame p ++ r = (hd8 p.length ++ nb4 (Sm (Sm 0 (hd8 p.length)) p)) ++ (p ++ r) := by simp only [frame, List.append_assoc]
    rw [e12, List.drop_left' (by simp [hd8_len, nb4_len]), List.take_left' rfl]
  have hl : (frame p ++ r).length = p.length + 12 + r.length := by rw [List.length_append, frame_len]
  unfold lookL
  rw [n0, n4, n8, t8, d12, hl, if_neg (by omega), if_neg (by rintro (h | h) <;> omega), if_neg (by omega), if_neg (by omega)]
/-- A frame's beginning is found torn. -/
theorem look_torn (p : List Nat) (t most : Nat) (hp : p.length ≤ most) (h32 : p.length < 4294967296) (ht : t < (frame p).length) : lookL ((frame p).take t) most = (0, 1) := by
  rw [frame_len] at ht
  have hl : ((frame p).take t).length = t := by rw [List.length_take, frame_len]; omega
  unfold lookL
  rw [hl]
  by_cases h12 : t < 12
  · rw [if_pos h12]
  · rw [if_neg h12]
    have e : (frame p).take t = nb4 p.length ++ (nb4 (p.length ^^^ 4294967295) ++ (nb4 (Sm (Sm 0 (hd8 p.length)) p) ++ p.take (t - 12))) := by
      rw [frame_eq, List.take_append, nb4_len, List.take_append, nb4_len, List.take_append, nb4_len, List.take_of_length_le (by rw [nb4_len]; omega), List.take_of_length_le (by rw [nb4_len]; omega), List.take_of_length_le (by rw [nb4_len]; omega), show t - 4 - 4 - 4 = t - 12 by omega]
    have n0 : num4 ((frame p).take t) = p.length := by rw [e]; exact num4_nb4 _ h32 _
    have n4 : num4 (((frame p).take t).drop 4) = p.length ^^^ 4294967295 := by rw [e, List.drop_left' (nb4_len _)]; exact num4_nb4 _ (not32_lt _ h32) _
    rw [n0, n4, if_neg (by rintro (h | h) <;> omega), if_pos (by omega)]
/-- The bytes of a segment's payloads. -/
def fby (ps : List (List Nat)) : List Nat := ps.flatMap frame
theorem fby_nil : fby [] = [] := rfl
theorem fby_cons (p : List Nat) (r : List (List Nat)) : fby (p :: r) = frame p ++ fby r := by simp [fby]
theorem fby_app (a b : List (List Nat)) : fby (a ++ b) = fby a ++ fby b := by simp [fby]
theorem fby_cons_len (p : List Nat) (r : List (List Nat)) : (fby (p :: r)).length = p.length + 12 + (fby r).length := by rw [fby_cons, List.length_append, frame_len]
theorem fby_app_len (a b : List (List Nat)) : (fby (a ++ b)).length = (fby a).length + (fby b).length := by rw [fby_app, List.length_append]
/-- Where a segment's payloads lie. -/
def plo (i : Nat) : Nat → List (List Nat) → List (Nat × Nat × Nat)
  | _, [] => []
  | o, p :: r => (i, o + 12, p.length) :: plo i (o + (12 + p.length)) r
/-- Where all payloads lie. -/
def plc : Nat → List (List (List Nat)) → List (Nat × Nat × Nat)
  | _, [] => []
  | i, ps :: R => plo i 0 ps ++ plc (i + 1) R
/-- The log of segments of payloads. -/
def LM.of (name : ByteArray) (Z : Nat) (SG : List (List (List Nat))) : LM := ⟨name, Z, SG.map (fun ps => (fby ps).length), plc 0 SG⟩
theorem plo_len (i : Nat) : ∀ (ps : List (List Nat)) (o : Nat), (plo i o ps).length = ps.length
  | [], _ => rfl
  | p :: r, o => by simp only [plo, List.length_cons]; rw [plo_len i r]
theorem plo_app (i : Nat) : ∀ (a b : List (List Nat)) (o : Nat), plo i o (a ++ b) = plo i o a ++ plo i (o + (fby a).length) b
  | [], b, o => by simp [plo, fby]
  | p :: r, b, o => by
    simp only [List.cons_append, plo]
    rw [plo_app i r b, fby_cons_len, show o + (12 + p.length) + (fby r).length = o + (p.length + 12 + (fby r).length) by omega]
theorem plc_app : ∀ (A B : List (List (List Nat))) (i : Nat), plc i (A ++ B) = plc i A ++ plc (i + A.length) B
  | [], B, i => by simp [plc]
  | ps :: R, B, i => by
    simp only [List.cons_append, plc, List.append_assoc]
    rw [plc_app R B, List.length_cons, show i + 1 + R.length = i + (R.length + 1) by omega]
theorem plc_len : ∀ (A : List (List (List Nat))) (i : Nat), (plc i A).length = A.flatten.length
  | [], _ => rfl
  | ps :: R, i => by
    simp only [plc, List.length_append, List.flatten_cons]
    rw [plo_len, plc_len R]
/-- The last segment has one more. -/
theorem of_more (name : ByteArray) (Z : Nat) (I : List (List (List Nat))) (ps : List (List Nat)) (p : List Nat) : LM.of name Z (I ++ [ps ++ [p]]) = ⟨name, Z, I.map (fun ps => (fby ps).length) ++ [(fby ps).length + (12 + p.length)], (LM.of name Z (I ++ [ps])).pls ++ [(I.length, (fby ps).length + 12, p.length)]⟩ := by
  simp only [LM.of, List.map_append, List.map_cons, List.map_nil, plc_app, plc, List.append_nil, plo_app, Nat.zero_add, plo, fby_app_len, fby_cons_len, List.append_assoc]
  simp [fby, Nat.add_comm]
theorem frm_nil0 (most f : Nat) (L : LM) : frm most f [] L = (L, 0) := by
  cases f with
  | zero => rfl
  | succ f => rw [frm, if_pos rfl]
/-- The frames of a segment, taken in. -/
theorem frm_run (most : Nat) (tail : List Nat) (ss : List Nat) : ∀ (ps : List (List Nat)) (f : Nat) (L : LM) (x : Nat), L.segs = ss ++ [x] → (∀ p ∈ ps, p.length ≤ most ∧ p.length < 4294967296) → frm most (ps.length + f) (fby ps ++ tail) L = frm most f tail { L with segs := ss ++ [x + (fby ps).length], pls := L.pls ++ plo ss.length x ps }
  | [], f, L, x, hs, _ => by
    simp only [List.length_nil, Nat.zero_add, fby_nil, List.nil_append, Nat.add_zero, plo, List.append_nil]
    rw [← hs]
  | p :: r, f, L, x, hs, h => by
    obtain ⟨h1, h2⟩ := h p (List.mem_cons_self ..)
    have el : lookL (fby (p :: r) ++ tail) most = (p.length, 0) := by rw [fby_cons, List.append_assoc]; exact look_frame p _ most h1 h2
    have hne : fby (p :: r) ++ tail ≠ [] := fun e => by
      have := congrArg List.length e
      rw [List.length_append, fby_cons_len] at this
      simp only [List.length_nil] at this
      omega
    rw [List.length_cons, show r.length + 1 + f = (r.length + f) + 1 by omega, frm, if_neg hne, el, if_pos rfl]
    have ed : (fby (p :: r) ++ tail).drop (12 + p.length) = fby r ++ tail := by
      rw [fby_cons, List.append_assoc, List.drop_left' (by rw [frame_len]; omega)]
    rw [ed, took_eq L ss x p.length hs, frm_run most tail ss r f { L with segs := ss ++ [x + (12 + p.length)], pls := L.pls ++ [(ss.length, x + 12, p.length)] } (x + (12 + p.length)) rfl (fun q hq => h q (List.mem_cons_of_mem _ hq)), fby_cons_len, plo]
    simp only [List.append_assoc, List.cons_append, List.nil_append]
    rw [show x + (12 + p.length) + (fby r).length = x + (p.length + 12 + (fby r).length) by omega]
theorem fby_ge (ps : List (List Nat)) : ps.length * 12 ≤ (fby ps).length := by
  induction ps with
  | nil => exact Nat.le_refl _
  | cons p r ih => rw [fby_cons_len, List.length_cons]; omega
/-- What may stand behind a segment's frames: nothing, or a frame's beginning. -/
def Tail (most : Nat) (t : List Nat) : Prop := t = [] ∨ ∃ p k, p.length ≤ most ∧ p.length < 4294967296 ∧ 0 < k ∧ k < (frame p).length ∧ t = (frame p).take k
theorem frm_tail (most f : Nat) (t : List Nat) (L : LM) (h : Tail most t) : frm most (f + 1) t L = (L, if t = [] then 0 else 1) := by
  rcases h with rfl | ⟨p, k, h1, h2, h3, h4, rfl⟩
  · rw [frm, if_pos rfl, if_pos rfl]
  · have hne : (frame p).take k ≠ [] := fun e => by
      have := congrArg List.length e
      rw [List.length_take] at this
      simp only [List.length_nil] at this
      omega
    rw [frm, if_neg hne, look_torn p k most h1 h2 h4, if_neg (by decide), if_neg hne]
theorem frm_seg (most : Nat) (L : LM) (ps : List (List Nat)) (t : List Nat) (hp : ∀ p ∈ ps, p.length ≤ most ∧ p.length < 4294967296) (ht : Tail most t) : frm most ((fby ps ++ t).length + 1) (fby ps ++ t) { L with segs := L.segs ++ [0] } = ({ L with segs := L.segs ++ [(fby ps).length], pls := L.pls ++ plo L.segs.length 0 ps }, if t = [] then 0 else 1) := by
  have hge := fby_ge ps
  have e : (fby ps ++ t).length + 1 = ps.length + ((fby ps ++ t).length - ps.length + 1) := by rw [List.length_append]; omega
  rw [e, frm_run most t L.segs ps _ { L with segs := L.segs ++ [0] } 0 rfl hp, frm_tail most _ t _ ht, Nat.zero_add]
/-- What a scan takes in of whole segments and one that may be torn. -/
theorem scn_run (name : ByteArray) (Z most : Nat) (B : Nat → List Nat) (ps : List (List Nat)) (t : List Nat) (N : Nat) (hps : ∀ p ∈ ps, p.length ≤ most ∧ p.length < 4294967296) (ht : Tail most t) (hBl : B (N - 1) = fby ps ++ t) : ∀ (R A : List (List (List Nat))) (f : Nat), A.length + R.length + 1 = N → R.length + 1 ≤ f → (∀ i, i < R.length → B (A.length + i) = fby (R.getD i [])) → (∀ qs ∈ R, ∀ p ∈ qs, p.length ≤ most ∧ p.length < 4294967296) → scn B N most f (LM.of name Z A) = (LM.of name Z (A ++ R ++ [ps]), true)
  | [], A, f, hN, hf, _, _ => by
    obtain ⟨g, rfl⟩ : ∃ g, f = g + 1 := ⟨f - 1, by simp only [List.length_nil] at hf; omega⟩
    have hl : (LM.of name Z A).segs.length = A.length := by simp [LM.of]
    simp only [List.length_nil, Nat.add_zero] at hN
    have eB : B A.length = fby ps ++ t := by rw [← hBl]; congr 1; omega
    rw [scn_go B N most g _ (by rw [hl]; omega), hl, eB, frm_seg most _ ps t hps ht, hl]
    have eo : (⟨(LM.of name Z A).name, (LM.of name Z A).size, (LM.of name Z A).segs ++ [(fby ps).length], (LM.of name Z A).pls ++ plo A.length 0 ps⟩ : LM) = LM.of name Z (A ++ [] ++ [ps]) := by
      simp [LM.of, plc_app, plc]
    rw [eo]
    have hl2 : (LM.of name Z (A ++ [] ++ [ps])).segs.length = N := by simp [LM.of]; omega
    unfold fin
    by_cases h0 : t = []
    · rw [if_pos h0, if_pos rfl, scn_end B N most g _ (by rw [hl2]; omega)]
    · rw [if_neg h0]
      simp only [show ¬ (1 : Nat) = 0 by decide, show ¬ (1 : Nat) = 2 by decide, if_false]
      rw [hl2]
      simp
  | qs :: R, A, f, hN, hf, hB, hR => by
    obtain ⟨g, rfl⟩ : ∃ g, f = g + 1 := ⟨f - 1, by simp only [List.length_cons] at hf; omega⟩
    have hl : (LM.of name Z A).segs.length = A.length := by simp [LM.of]
    simp only [List.length_cons] at hN hf
    have eB : B A.length = fby qs ++ [] := by
      have := hB 0 (by simp)
      simpa using this
    rw [scn_go B N most g _ (by rw [hl]; omega), hl, eB, frm_seg most _ qs [] (hR qs (List.mem_cons_self ..)) (.inl rfl), hl]
    have eo : (⟨(LM.of name Z A).name, (LM.of name Z A).size, (LM.of name Z A).segs ++ [(fby qs).length], (LM.of name Z A).pls ++ plo A.length 0 qs⟩ : LM) = LM.of name Z (A ++ [qs]) := by
      simp [LM.of, plc_app, plc]
    rw [eo]
    unfold fin
    rw [if_pos rfl, if_pos rfl, scn_run name Z most B ps t N hps ht hBl R (A ++ [qs]) g (by simp; omega) (by omega) (fun i hi => by
      have := hB (i + 1) (by simp only [List.length_cons]; omega)
      rw [List.length_append, List.length_singleton, show A.length + 1 + i = A.length + (i + 1) by omega, this]
      simp) (fun q hq => hR q (List.mem_cons_of_mem _ hq))]
    simp
/-- How many whole frames a number of bytes holds. -/
def wholes : List (List Nat) → Nat → Nat
  | [], _ => 0
  | p :: r, n => if p.length + 12 ≤ n then wholes r (n - (p.length + 12)) + 1 else 0
theorem wholes_le : ∀ (ps : List (List Nat)) (n : Nat), wholes ps n ≤ ps.length
  | [], _ => Nat.le_refl _
  | p :: r, n => by
    simp only [wholes, List.length_cons]
    have := wholes_le r (n - (p.length + 12))
    split <;> omega
/-- A beginning of frames is whole frames and, maybe, a frame's beginning. -/
theorem cut_frames (most : Nat) : ∀ (ps : List (List Nat)) (n : Nat), (∀ p ∈ ps, p.length ≤ most ∧ p.length < 4294967296) → ∃ t, Tail most t ∧ (fby ps).take n = fby (ps.take (wholes ps n)) ++ t
  | [], n, _ => ⟨[], .inl rfl, by simp [fby, wholes]⟩
  | p :: r, n, h => by
    obtain ⟨h1, h2⟩ := h p (List.mem_cons_self ..)
    rw [wholes]
    by_cases hn : p.length + 12 ≤ n
    · rw [if_pos hn]
      obtain ⟨t, ht, e⟩ := cut_frames most r (n - (p.length + 12)) (fun q hq => h q (List.mem_cons_of_mem _ hq))
      refine ⟨t, ht, ?_⟩
      rw [List.take_succ_cons, fby_cons, fby_cons, List.take_append, frame_len, e, List.take_of_length_le (by rw [frame_len]; omega), List.append_assoc]
    · rw [if_neg hn]
      by_cases h0 : n = 0
      · subst h0
        exact ⟨[], .inl rfl, by simp [fby]⟩
      · refine ⟨(frame p).take n, .inr ⟨p, n, h1, h2, by omega, by rw [frame_len]; omega, rfl⟩, ?_⟩
        rw [fby_cons, List.take_append, frame_len, show n - (p.length + 12) = 0 by omega]
        simp [fby]
theorem wholes_app (n : Nat) : ∀ (a b : List (List Nat)), wholes (a ++ b) ((fby a).length + n) = a.length + wholes b n
  | [], b => by simp [fby]
  | p :: r, b => by
    rw [List.cons_append, wholes, fby_cons_len, if_pos (by omega), show p.length + 12 + (fby r).length + n - (p.length + 12) = (fby r).length + n by omega, wholes_app n r b, List.length_cons]
    omega
/-- Where a payload lies. -/
theorem plo_at (i : Nat) : ∀ (ps : List (List Nat)) (o k : Nat) (p : List Nat), ps[k]? = some p → (plo i o ps)[k]? = some (i, o + (fby (ps.take k)).length + 12, p.length) ∧ ((fby ps).drop ((fby (ps.take k)).length + 12)).take p.length = p ∧ (fby (ps.take k)).length + 12 + p.length ≤ (fby ps).length
  | [], o, k, p, h => by simp at h
  | q :: r, o, 0, p, h => by
    simp only [List.getElem?_cons_zero, Option.some.injEq] at h
    subst h
    refine ⟨by simp [plo, fby], ?_, by rw [fby_cons_len]; simp [fby]; omega⟩
    simp only [List.take_zero, fby_nil, List.length_nil, Nat.zero_add]
    rw [fby_cons, frame, List.append_assoc, List.drop_left' (by simp [hd8_len, nb4_len]), List.take_left' rfl]
  | q :: r, o, k + 1, p, h => by
    rw [List.getElem?_cons_succ] at h
    obtain ⟨h1, h2, h3⟩ := plo_at i r (o + (12 + q.length)) k p h
    rw [List.take_succ_cons, fby_cons_len]
    refine ⟨?_, ?_, by rw [fby_cons_len]; omega⟩
    · rw [plo, List.getElem?_cons_succ, h1]
      simp only [Option.some.injEq, Prod.mk.injEq, true_and, and_true]
      omega
    · rw [fby_cons, List.drop_append, frame_len, List.drop_of_length_le (by rw [frame_len]; omega), List.nil_append, show q.length + 12 + (fby (r.take k)).length + 12 - (q.length + 12) = (fby (r.take k)).length + 12 by omega]
      exact h2
theorem plc_at : ∀ (SG : List (List (List Nat))) (i k : Nat) (p : List Nat), SG.flatten[k]? = some p → ∃ a b ps, SG[a]? = some ps ∧ (plc i SG)[k]? = some (i + a, b, p.length) ∧ ((fby ps).drop b).take p.length = p ∧ b + p.length ≤ (fby ps).length
  | [], i, k, p, h => by simp at h
  | qs :: R, i, k, p, h => by
    rw [List.flatten_cons] at h
    rcases Nat.lt_or_ge k qs.length with hk | hk
    · rw [List.getElem?_append_left hk] at h
      obtain ⟨h1, h2, h3⟩ := plo_at i qs 0 k p h
      refine ⟨0, _, qs, rfl, ?_, h2, h3⟩
      rw [plc, List.getElem?_append_left (by rw [plo_len]; exact hk), h1]
      simp
    · rw [List.getElem?_append_right hk] at h
      obtain ⟨a, b, ps, h1, h2, h3, h4⟩ := plc_at R (i + 1) (k - qs.length) p h
      refine ⟨a + 1, b, ps, by rw [List.getElem?_cons_succ]; exact h1, ?_, h3, h4⟩
      rw [plc, List.getElem?_append_right (by rw [plo_len]; exact hk), plo_len, h2]
      simp only [Option.some.injEq, Prod.mk.injEq, and_true]
      omega
theorem plc_seg : ∀ (A : List (List (List Nat))) (i k a b c : Nat), (plc i A)[k]? = some (a, b, c) → a < i + A.length
  | [], i, k, a, b, c, h => by simp [plc] at h
  | qs :: R, i, k, a, b, c, h => by
    rw [plc] at h
    rcases Nat.lt_or_ge k qs.length with hk | hk
    · rw [List.getElem?_append_left (by rw [plo_len]; exact hk)] at h
      have := (plo_at i qs 0 k _ (List.getElem?_eq_getElem hk)).1
      rw [h] at this
      simp only [Option.some.injEq, Prod.mk.injEq] at this
      simp only [List.length_cons]
      omega
    · rw [List.getElem?_append_right (by rw [plo_len]; exact hk), plo_len] at h
      have := plc_seg R (i + 1) _ a b c h
      simp only [List.length_cons]
      omega
theorem fby_take_mono (ps : List (List Nat)) : ∀ {j k : Nat}, j ≤ k → (fby (ps.take j)).length ≤ (fby (ps.take k)).length := by
  intro j k h
  obtain ⟨b, hb⟩ : ∃ b, ps.take k = ps.take j ++ b := ⟨(ps.take k).drop j, by rw [show ps.take j = (ps.take k).take j by rw [List.take_take, Nat.min_eq_left h], List.take_append_drop]⟩
  rw [hb, fby_app_len]
  omega
/-- Which payloads are not safe. -/
theorem of_uns (name : ByteArray) (Z : Nat) (I : List (List (List Nat))) (ps : List (List Nat)) (j i : Nat) (hi : i < (I ++ [ps]).flatten.length) : (LM.of name Z (I ++ [ps])).uns I.length (fby (ps.take j)).length i = decide (I.flatten.length + j ≤ i) := by
  simp only [LM.uns, LM.of, plc_app, plc, List.append_nil, Nat.zero_add]
  rcases Nat.lt_or_ge i I.flatten.length with h | h
  · rw [List.getElem?_append_left (by rw [plc_len]; exact h)]
    obtain ⟨⟨a, b, c⟩, e⟩ : ∃ x, (plc 0 I)[i]? = some x := ⟨_, List.getElem?_eq_getElem (by rw [plc_len]; exact h)⟩
    have := plc_seg I 0 i a b c e
    rw [e]
    simp only [Option.elim_some, pendP]
    rw [decide_eq_false (by omega), decide_eq_false (by omega)]
  · rw [List.getElem?_append_right (by rw [plc_len]; exact h), plc_len]
    have hk : i - I.flatten.length < ps.length := by
      simp only [List.flatten_append, List.length_append, List.flatten_cons, List.flatten_nil, List.append_nil] at hi
      omega
    obtain ⟨h1, _, _⟩ := plo_at I.length ps 0 (i - I.flatten.length) _ (List.getElem?_eq_getElem hk)
    rw [h1]
    simp only [Option.elim_some, pendP, true_and]
    have et : (fby (ps.take (i - I.flatten.length + 1))).length = (fby (ps.take (i - I.flatten.length))).length + (12 + (ps[i - I.flatten.length]).length) := by
      rw [List.take_succ_eq_append_getElem hk, fby_app_len, fby_cons_len]
      simp [fby]
      omega
    rcases Nat.lt_or_ge i (I.flatten.length + j) with hj | hj
    · have := fby_take_mono ps (show i - I.flatten.length + 1 ≤ j by omega)
      rw [decide_eq_false (by omega), decide_eq_false (by omega)]
    · have := fby_take_mono ps (show j ≤ i - I.flatten.length by omega)
      rw [decide_eq_true (by omega), decide_eq_true (by omega)]
end Go.Proofs.YtmmaddlphclpnaaGreatDoor

