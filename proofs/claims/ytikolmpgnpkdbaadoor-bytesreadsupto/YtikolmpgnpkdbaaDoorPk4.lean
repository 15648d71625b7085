import Derived.Test.YtikolmpgnpkdbaaDoorPk3
import Derived.Lib.ConvBytes
namespace Go.Proofs.YtikolmpgnpkdbaaDoor
open Go.RowKit

theorem own_src {w : World} {base : Nat} {v : Value} {l : List Nat} (h : w.ownsRow base 5 1 v l.length (cellsOf l)) : Src w v l := by
  rcases h.2 with ⟨rfl, e⟩ | ⟨g, cap, cur, rfl, _⟩
  · exact .inl ⟨rfl, List.eq_nil_of_length_eq_zero e⟩
  · refine .inr (.inl ⟨g, 0, cap, rfl, fun j v hv => ?_⟩)
    have := h.cells (g := g) rfl j v hv
    have e : (⟨g, 0, none⟩ : Addr).add j = ⟨g, 0 + j, none⟩ := by unfold Addr.add; split <;> simp_all
    rw [e] at this; exact this
theorem box1 (w : World) (a : Obj) : Fr (fun _ => False) w (w.alloc a) := (Fr.refl _ _).alloc _
theorem c10 (w : World) (v : Value) (t : TypeId) : (w.alloc (.cells #[v] t)).cell? ⟨w.heap.size, 0, none⟩ = some v := by simp
theorem own_mono {w : World} {base base' n : Nat} {v : Value} {xs : List Value} (h : w.ownsRow base 5 1 v n xs) (hb : base' ≤ base) : w.ownsRow base' 5 1 v n xs := by
  refine ⟨h.1, ?_⟩
  rcases h.2 with h | ⟨g, c, cur, e1, e2, e3⟩
  · exact .inl h
  · exact .inr ⟨g, c, cur, e1, Nat.le_trans hb e2, e3⟩

theorem rp_bytes_att {wb : World} (b Fc : Nat) (caps : Array Value) (p0 p1 p2 : Addr) (nm : ByteArray) (sv old : Value) (all : List Nat) (place part p' : Nat) (n : Nat) (l : List Nat) (h : Rc wb b nm sv all place part)
    (hp0 : wb.cell? p0 = some (.pointer (some ⟨b, 0, none⟩))) (hp1 : wb.cell? p1 = some (.func (.func Fc) #[] caps)) (hp2 : wb.cell? p2 = some old) (f2 : wb.frozen? p2 = false) (n0 : p0.block ≠ b) (n1 : p1.block ≠ b) (n2 : p2.block ≠ b)
    (he : ∀ W, (callFunc Fc caps).run Tryd.prog W = .ok (.enter Fc caps) W)
    (hread : ∀ wk, Fr (fun k => k = b) wb wk → Rc wk b nm sv all place place → Calls Tryd.prog Fc caps wk fun e w' => ∃ ao cap, e = .returned (.slice ao n cap) ∧ w'.ownsRow wk.heap.size 5 1 (.slice ao n cap) n (cellsOf l) ∧ Rc w' b nm sv all p' place ∧ Fr (fun k => k = b) wk w') :
    Calls Tryd.prog 54 #[.pointer (some ⟨b, 0, none⟩), .func (.func 94) #[] #[.pointer (some p0), .pointer (some p1), .pointer (some p2)]] wb fun e w' => e = .returned (.tuple #[]) ∧ ∃ w1 ao cap, w1.ownsRow wb.heap.size 5 1 (.slice ao n cap) n (cellsOf l) ∧ Rc w1 b nm sv all p' place ∧ Fr (fun k => k = b) wb w1 ∧ w' = w1.setCell p2 (.slice ao n cap) := by
  have hk : Fr (fun _ => False) wb (wb.alloc (.cells #[.pointer (some ⟨b, 0, none⟩)] 108)) := (Fr.refl _ _).alloc _
  have hkb : Fr (fun k => k = b) wb (wb.alloc (.cells #[.pointer (some ⟨b, 0, none⟩)] 108)) := (Fr.refl _ _).alloc _
  refine attempt_ok b 94 _ (fun w' => ∃ w1 ao cap, w1.ownsRow wb.heap.size 5 1 (.slice ao n cap) n (cellsOf l) ∧ Rc w1 b nm sv all p' place ∧ Fr (fun k => k = b) wb w1 ∧ w' = w1.setCell p2 (.slice ao n cap)) wb h.c1 (enters Tryd.func94 (by kernel_rfl) (by kernel_rfl) _) ?_
  refine (rp_bytes_clo b Fc caps p0 p1 p2 nm sv old all place part p' n l _ (h.frame hk (fun h => h) (fun _ _ _ _ _ h => h)) ((hk.cell (lt_of_cell hp0) (fun h => h)).trans hp0) ((hk.cell (lt_of_cell hp1) (fun h => h)).trans hp1) ((hk.cell (lt_of_cell hp2) (fun h => h)).trans hp2) ((hk.frozen (lt_of_cell hp2) (fun h => h)).trans f2) n0 n1 n2 he (fun wk hf hr => hread wk (hkb.trans hf (fun _ _ h => h)) hr)).mono ?_
  rintro e w' ⟨rfl, w1, ao, cap, hown, hr, hf, rfl⟩
  exact ⟨rfl, w1, ao, cap, own_mono hown (by simp), hr, hkb.trans hf (fun _ _ h => h), rfl⟩

set_option maxRecDepth 100000 in
theorem rp_bytes_ok (b Fc : Nat) (caps : Array Value) (F : Nat → Prop) (s : Rst) (p' : Nat) (n : Nat) (l : List Nat) (w : World) (h : R w b F s) (hn : s.f = none) (he : ∀ W, (callFunc Fc caps).run Tryd.prog W = .ok (.enter Fc caps) W)
    (hread : ∀ wk sv, Fr (fun k => k = b) w wk → Rc wk b s.nm sv s.all s.place s.place → Calls Tryd.prog Fc caps wk fun e w' => ∃ ao cap, e = .returned (.slice ao n cap) ∧ w'.ownsRow wk.heap.size 5 1 (.slice ao n cap) n (cellsOf l) ∧ Rc w' b s.nm sv s.all p' s.place ∧ Fr (fun k => k = b) wk w') :
    Calls Tryd.prog 59 #[.pointer (some ⟨b, 0, none⟩), .func (.func Fc) #[] caps] w fun e w' => ∃ ao cap, e = .returned (.slice ao n cap) ∧ w'.ownsRow (w.heap.size + 3) 5 1 (.slice ao n cap) n (cellsOf l) ∧ R w' b F { s with place := p', part := s.place } ∧ Fr (fun k => k = b) w w' := by
  obtain ⟨sv, hr, hF⟩ := h.rc hn
  have hlt := h.lt b h.fb
  have hmf := mf
  have H := hide (And.intro h (And.intro hn (And.intro hr hF)))
  have HR := hide hread
  clear h hn hr hF hread
  go_enter Tryd.func59, Tryd.ntmps59
  go_wp2_with fail
  refine (rp_bytes_att b Fc caps ⟨w.heap.size, 0, none⟩ ⟨w.heap.size + 1, 0, none⟩ ⟨w.heap.size + 1 + 1, 0, none⟩ s.nm sv _ s.all s.place s.part p' n l ((unhide H).2.2.1.frame (box3 w _ _ _) (fun h => h) (fun _ _ _ _ _ h => h)) (c30 _ _ _ _ _) (c31 _ _ _ _ _) (c32 _ _ _ _ _) (z32 _ _ _ _ _) (by show w.heap.size ≠ b; omega) (by show w.heap.size + 1 ≠ b; omega) (by show w.heap.size + 1 + 1 ≠ b; omega) he (fun wk hf hr => unhide HR wk sv ((box3b w b _ _ _).trans hf (fun _ _ h => h)) hr)).mono ?_
  rintro e w' ⟨rfl, w1, ao, cap, hown, hr, hf, rfl⟩
  have HO : Hid (w1.ownsRow (w.heap.size + 1 + 1 + 1) 5 1 (.slice ao n cap) n (cellsOf l)) := hide (by simpa using hown)
  clear hown
  have hf1 := (box3b w b _ _ _).trans hf (fun _ _ h => h)
  have hc2 := (hf.cell (p := ⟨w.heap.size + 1 + 1, 0, none⟩) (by simp) (by show ¬ w.heap.size + 1 + 1 = b; omega)).trans (c32 _ _ _ _ _)
  have hz2 := (hf.frozen (p := ⟨w.heap.size + 1 + 1, 0, none⟩) (by simp) (by show ¬ w.heap.size + 1 + 1 = b; omega)).trans (z32 _ _ _ _ _)
  have HH := hide (And.intro hr hf1)
  clear hr hf1 hf
  go_wp2_with fail
  obtain ⟨hR, hF⟩ := rp_fin (V := .slice ao n cap) (unhide H).1 (unhide H).2.1 (unhide H).2.2.2 (unhide HH).1 (unhide HH).2
  exact bodyPost_ret (v := .slice ao n cap) (by simp [results, Tryd.results59, go_sem, hc2]) rfl ⟨ao, cap, rfl, ownsRow_setCell_below (ownsRow_setCell_below (unhide HO) (by simp) _) (by simp) _, hR, hF⟩

theorem rU8_ok (b : Nat) (F : Nat → Prop) (s : Rst) (E : Nat → Addr) (w : World) (hg : Gl w E) (h : R w b F s) (hn : s.f = none) (hl : 1 + s.place ≤ s.all.length) :
    Calls Tryd.prog 21 #[.pointer (some ⟨b, 0, none⟩)] w fun e w' => e = .returned (.int .u8 (val ((s.all.drop s.place).take 1))) ∧ R w' b F { s with place := s.place + 1, part := s.place } ∧ Fr (fun k => k = b) w w' := by
  have hlt := h.lt b h.fb
  have hlo := h.lo b h.fb
  have hmf := mf
  have H := hide (And.intro h (And.intro hn hg))
  clear h hn hg
  go_enter Tryd.func21, Tryd.ntmps21
  go_wp2_with fail
  refine (rp_uint8_ok b 52 _ F s (s.place + 1) (val ((s.all.drop s.place).take 1)) _ ((unhide H).1.frame (box1 w _) (fun _ _ h => h)) (unhide H).2.1 (enters Tryd.func52 (by kernel_rfl) (by kernel_rfl) _) (fun wk sv hf hr => rU8_clo b s.place s.place ⟨w.heap.size, 0, none⟩ s.nm sv s.all E wk (((unhide H).2.2.fr0 (box1 w _)).frb hf hlo) hr ((hf.cell (by simp) (by show ¬ w.heap.size = b; omega)).trans (c10 _ _ _)) hl)).mono ?_
  rintro e w' ⟨rfl, hR, hf⟩
  have HR := hide (And.intro hR hf)
  clear hR hf
  go_wp2_with fail
  go_ret
  exact ⟨rfl, (unhide HR).1, ((box1 w _).mono (fun _ _ h => h.elim)).trans (unhide HR).2 (fun _ _ h => h)⟩
theorem rU16_ok (b : Nat) (F : Nat → Prop) (s : Rst) (E : Nat → Addr) (w : World) (hg : Gl w E) (h : R w b F s) (hn : s.f = none) (hl : 2 + s.place ≤ s.all.length) :
    Calls Tryd.prog 26 #[.pointer (some ⟨b, 0, none⟩)] w fun e w' => e = .returned (.int .u16 (val ((s.all.drop s.place).take 2))) ∧ R w' b F { s with place := s.place + 2, part := s.place } ∧ Fr (fun k => k = b) w w' := by
  have hlt := h.lt b h.fb
  have hlo := h.lo b h.fb
  have hmf := mf
  have H := hide (And.intro h (And.intro hn hg))
  clear h hn hg
  go_enter Tryd.func26, Tryd.ntmps26
  go_wp2_with fail
  refine (rp_uint16_ok b 65 _ F s (s.place + 2) (val ((s.all.drop s.place).take 2)) _ ((unhide H).1.frame (box1 w _) (fun _ _ h => h)) (unhide H).2.1 (enters Tryd.func65 (by kernel_rfl) (by kernel_rfl) _) (fun wk sv hf hr => rU16_clo b s.place s.place ⟨w.heap.size, 0, none⟩ s.nm sv s.all E wk (((unhide H).2.2.fr0 (box1 w _)).frb hf hlo) hr ((hf.cell (by simp) (by show ¬ w.heap.size = b; omega)).trans (c10 _ _ _)) hl)).mono ?_
  rintro e w' ⟨rfl, hR, hf⟩
  have HR := hide (And.intro hR hf)
  clear hR hf
  go_wp2_with fail
  go_ret
  exact ⟨rfl, (unhide HR).1, ((box1 w _).mono (fun _ _ h => h.elim)).trans (unhide HR).2 (fun _ _ h => h)⟩
theorem rU32_ok (b : Nat) (F : Nat → Prop) (s : Rst) (E : Nat → Addr) (w : World) (hg : Gl w E) (h : R w b F s) (hn : s.f = none) (hl : 4 + s.place ≤ s.all.length) :
    Calls Tryd.prog 42 #[.pointer (some ⟨b, 0, none⟩)] w fun e w' => e = .returned (.int .u32 (val ((s.all.drop s.place).take 4))) ∧ R w' b F { s with place := s.place + 4, part := s.place } ∧ Fr (fun k => k = b) w w' := by
  have hlt := h.lt b h.fb
  have hlo := h.lo b h.fb
  have hmf := mf
  have H := hide (And.intro h (And.intro hn hg))
  clear h hn hg
  go_enter Tryd.func42, Tryd.ntmps42
  go_wp2_with fail
  refine (rp_uint32_ok b 81 _ F s (s.place + 4) (val ((s.all.drop s.place).take 4)) _ ((unhide H).1.frame (box1 w _) (fun _ _ h => h)) (unhide H).2.1 (enters Tryd.func81 (by kernel_rfl) (by kernel_rfl) _) (fun wk sv hf hr => rU32_clo b s.place s.place ⟨w.heap.size, 0, none⟩ s.nm sv s.all E wk (((unhide H).2.2.fr0 (box1 w _)).frb hf hlo) hr ((hf.cell (by simp) (by show ¬ w.heap.size = b; omega)).trans (c10 _ _ _)) hl)).mono ?_
  rintro e w' ⟨rfl, hR, hf⟩
  have HR := hide (And.intro hR hf)
  clear hR hf
  go_wp2_with fail
  go_ret
  exact ⟨rfl, (unhide HR).1, ((box1 w _).mono (fun _ _ h => h.elim)).trans (unhide HR).2 (fun _ _ h => h)⟩
theorem rU64_ok (b : Nat) (F : Nat → Prop) (s : Rst) (E : Nat → Addr) (w : World) (hg : Gl w E) (h : R w b F s) (hn : s.f = none) (hl : 8 + s.place ≤ s.all.length) :
    Calls Tryd.prog 43 #[.pointer (some ⟨b, 0, none⟩)] w fun e w' => e = .returned (.int .u64 (val ((s.all.drop s.place).take 8))) ∧ R w' b F { s with place := s.place + 8, part := s.place } ∧ Fr (fun k => k = b) w w' := by
  have hlt := h.lt b h.fb
  have hlo := h.lo b h.fb
  have hmf := mf
  have H := hide (And.intro h (And.intro hn hg))
  clear h hn hg
  go_enter Tryd.func43, Tryd.ntmps43
  go_wp2_with fail
  refine (rp_uint64_ok b 83 _ F s (s.place + 8) (val ((s.all.drop s.place).take 8)) _ ((unhide H).1.frame (box1 w _) (fun _ _ h => h)) (unhide H).2.1 (enters Tryd.func83 (by kernel_rfl) (by kernel_rfl) _) (fun wk sv hf hr => rU64_clo b s.place s.place ⟨w.heap.size, 0, none⟩ s.nm sv s.all E wk (((unhide H).2.2.fr0 (box1 w _)).frb hf hlo) hr ((hf.cell (by simp) (by show ¬ w.heap.size = b; omega)).trans (c10 _ _ _)) hl)).mono ?_
  rintro e w' ⟨rfl, hR, hf⟩
  have HR := hide (And.intro hR hf)
  clear hR hf
  go_wp2_with fail
  go_ret
  exact ⟨rfl, (unhide HR).1, ((box1 w _).mono (fun _ _ h => h.elim)).trans (unhide HR).2 (fun _ _ h => h)⟩

theorem rBytes_ok (b x : Nat) (most : Int) (F : Nat → Prop) (s : Rst) (E : Nat → Addr) (w : World) (hm : most < 9223372036854775808) (hg : Gl w E) (h : R w b F s) (hn : s.f = none) (hx : val ((s.all.drop s.place).take 4) = x) (hl : 4 + s.place ≤ s.all.length) (hv : (x : Int) ≤ most) (hxl : x + (s.place + 4) ≤ s.all.length) (hal : s.all.length ≤ 140737488355328) :
    Calls Tryd.prog 24 #[.pointer (some ⟨b, 0, none⟩), .int .i64 most] w fun e w' => ∃ ao cap, e = .returned (.slice ao x cap) ∧ w'.ownsRow w.heap.size 5 1 (.slice ao x cap) x (cellsOf ((s.all.drop (s.place + 4)).take x)) ∧ R w' b F { s with place := s.place + 4 + x, part := s.place } ∧ Fr (fun k => k = b) w w' := by
  have hlt := h.lt b h.fb
  have hlo := h.lo b h.fb
  have hmf := mf
  have H := hide (And.intro h (And.intro hn hg))
  have HX := hide hx
  clear h hn hg hx
  go_enter Tryd.func24, Tryd.ntmps24
  go_wp2_with fail
  refine (rp_bytes_ok b 60 _ F s (s.place + 4 + x) x ((s.all.drop (s.place + 4)).take x) _ ((unhide H).1.frame (box2 w _ _) (fun _ _ h => h)) (unhide H).2.1 (enters Tryd.func60 (by kernel_rfl) (by kernel_rfl) _) (fun wk sv hf hr => rBytes_clo b s.place s.place x most ⟨w.heap.size, 0, none⟩ ⟨w.heap.size + 1, 0, none⟩ s.nm sv s.all E wk hlo hm (((unhide H).2.2.fr0 (box2 w _ _)).frb hf hlo) hr ((hf.cell (by simp <;> omega) (by show ¬ w.heap.size = b; omega)).trans (by simp)) ((hf.cell (by simp) (by show ¬ w.heap.size + 1 = b; omega)).trans (by simp)) (by show w.heap.size ≠ b; omega) (unhide HX) hl hv hxl hal)).mono ?_
  rintro e w' ⟨ao, cap, rfl, hown, hR, hf⟩
  have HR := hide (And.intro hown (And.intro hR hf))
  clear hown hR hf
  go_wp2_with fail
  go_ret
  exact ⟨ao, cap, rfl, own_mono (unhide HR).1 (by simp; omega), (unhide HR).2.1, ((box2 w _ _).mono (fun _ _ h => h.elim)).trans (unhide HR).2.2 (fun _ _ h => h)⟩

/-- NewReader. -/
theorem newReader_any (x : Value) (l : List Nat) (w : World) (hw : 9 ≤ w.heap.size) (hx : Src w x l) (hl : l.length ≤ 140737488355328) :
    Calls Tryd.prog 15 #[x] w fun e w' => ∃ b F, e = .returned (.pointer (some ⟨b, 0, none⟩)) ∧ R w' b F ⟨ByteArray.empty, l, 0, 0, none⟩ ∧ Fr (fun _ => False) w w' ∧ ∀ k, F k → w.heap.size ≤ k := by
  have HX := hide hx
  clear hx
  go_enter Tryd.func15, Tryd.ntmps15
  go_wp2_with fail
  refine (clone_any x l w (unhide HX) hl).mono ?_
  rintro e w1 ⟨v, rfl, hown, hf⟩
  obtain ⟨ao, cap, rfl⟩ := own_form hown
  have HO := hide (And.intro hown hf)
  clear hown hf
  go_wp2_with fail
  go_ret
  obtain ⟨hown, hf⟩ := unhide HO
  have hf1 : Fr (fun _ => False) w1 (w1.alloc (.cells #[.string ⟨#[]⟩, .pointer none, .slice ao l.length cap, .int .i64 0, .int .i64 0] 82)) := (Fr.refl _ _).alloc _
  have hwl := hf.size
  refine ⟨w1.heap.size, fun k => k = w1.heap.size ∨ ∃ o m c, (Value.slice ao l.length cap) = .slice (some ⟨k, o, none⟩) m c, rfl, ⟨?_, ?_, .inl rfl, .inl ⟨rfl, .slice ao l.length cap, ⟨?_, ?_, ?_, ?_, ?_, ?_, ?_, ?_, Nat.zero_le _⟩, fun g o m c e => .inr ⟨o, m, c, e⟩⟩⟩, hf.trans hf1 (fun _ _ h => h), ?_⟩
  · intro k hk
    rcases hk with rfl | ⟨o, m, c, e⟩
    · simp
    · have := (hown.lt k (by rw [e]; rfl)).2
      simp; omega
  · intro k hk
    rcases hk with rfl | ⟨o, m, c, e⟩
    · omega
    · have := (hown.lt k (by rw [e]; rfl)).1
      omega
  · simp; rfl
  · simp
  · simp
  · simp
  · simp
  · intro i; simp
  · refine Src.fr (own_src hown) hf1 (fun _ _ _ _ _ h => h)
  · intro g o m c e
    have h1 := (hown.lt g (by rw [e]; rfl)).2
    refine ⟨by omega, ?_⟩
    rcases hown.2 with ⟨e2, _⟩ | ⟨g', c', cur, e2, _, _, hc, _⟩
    · rw [e] at e2; simp at e2
    · rw [e] at e2
      simp only [Value.slice.injEq] at e2 e
      omega
  · intro k hk
    rcases hk with rfl | ⟨o, m, c, e⟩
    · exact hwl
    · exact (hown.lt k (by rw [e]; rfl)).1
end Go.Proofs.YtikolmpgnpkdbaaDoor

namespace Go.Proofs.YtikolmpgnpkdbaaDoor
open Go.RowKit

theorem rAt_ok (b : Nat) (F : Nat → Prop) (s : Rst) (w : World) (h : R w b F s) (hn : s.f = none) :
    Calls Tryd.prog 19 #[.pointer (some ⟨b, 0, none⟩)] w fun e w' => e = .returned (.int .i64 s.place) ∧ w' = w := by
  obtain ⟨sv, hr, _⟩ := h.rc hn
  have c1 := hr.c1
  have c3 := hr.c3
  clear h hn hr
  go_enter Tryd.func19, Tryd.ntmps19
  go_wp2
  go_ret
  exact ⟨rfl, rfl⟩

theorem rErr_ok (b : Nat) (F : Nat → Prop) (s : Rst) (w : World) (h : R w b F s) (hn : s.f = none) :
    Calls Tryd.prog 17 #[.pointer (some ⟨b, 0, none⟩)] w fun e w' => e = .returned .nilIface ∧ w' = w := by
  obtain ⟨sv, hr, _⟩ := h.rc hn
  have c1 := hr.c1
  clear h hn hr
  go_enter Tryd.func17, Tryd.ntmps17
  go_wp2_with (go_at_call 40; refine (told_none b _ c1).mono ?_; rintro e w' ⟨rfl, rfl⟩)
  go_ret
  exact ⟨rfl, rfl⟩

set_option maxRecDepth 100000 in
theorem rDone_end (b : Nat) (F : Nat → Prop) (s : Rst) (w : World) (h : R w b F s) (hn : s.f = none) (hp : s.place = s.all.length) :
    Calls Tryd.prog 18 #[.pointer (some ⟨b, 0, none⟩)] w fun e w' => e = .returned .nilIface ∧ Fr (fun _ => False) w w' := by
  obtain ⟨sv, hr, _⟩ := h.rc hn
  have c1 := hr.c1
  have c2 := hr.c2
  have c3 := hr.c3
  obtain ⟨ao, cap, rfl, _, _⟩ := hr.form
  have hlt := h.lt b h.fb
  have hd : decide (s.place < s.all.length) = false := by simp; omega
  clear h hn hr hp
  go_enter Tryd.func18, Tryd.ntmps18
  go_wp2_with fail
  go_quiet (fail)
  go_wp2_with (go_at_call 40; refine (told_none b _ (by simpa using c1)).mono ?_; rintro e w' ⟨rfl, rfl⟩)
  go_ret
  exact ⟨rfl, (Fr.refl _ _).drewN _⟩

set_option maxRecDepth 100000 in
theorem rDone_trail (b : Nat) (F : Nat → Prop) (s : Rst) (E : Nat → Addr) (w : World) (hg : Gl w E) (h : R w b F s) (hn : s.f = none) (hp : s.place < s.all.length) :
    Calls Tryd.prog 18 #[.pointer (some ⟨b, 0, none⟩)] w fun e w' => ∃ fb, e = .returned (.iface 64 (.pointer (some ⟨fb, 0, none⟩))) ∧ w'.heap[fb]? = some (faultObj s.nm s.place (E 3)) ∧ Fr (fun _ => False) w w' ∧ w.heap.size ≤ fb := by
  obtain ⟨sv, hr, _⟩ := h.rc hn
  have c0 := hr.c0
  have c1 := hr.c1
  have c2 := hr.c2
  have c3 := hr.c3
  have e3 := hg.e3
  obtain ⟨ao, cap, rfl, _, _⟩ := hr.form
  have hlt := h.lt b h.fb
  have hd : decide (s.place < s.all.length) = true := by simp; omega
  clear h hn hr hp hg
  go_enter Tryd.func18, Tryd.ntmps18
  go_wp2_with fail
  go_quiet (fail)
  go_wp2_with fail
  go_region_with (go_at_call 50; refine (faultAt_any b s.place s.nm (E 3) _ (by simpa using c0)).mono ?_; rintro e w' ⟨rfl, rfl⟩)
  all_goals
    go_wp2
    go_ret
    exact ⟨_, rfl, heap_alloc_new w _, ((Fr.refl _ _).drewN _).alloc _, Nat.le_refl _⟩

/-- Same of two slices of bytes. -/
def norm (a : List Nat) : List Nat := a.map (· % 256)
def sameB (a b : List Nat) : Bool := decide (norm a = norm b)
theorem norm_take_succ {a b : List Nat} {k : Nat} (ha : k < a.length) (hb : k < b.length) (h : norm (a.take k) = norm (b.take k)) (e : a[k] % 256 = b[k] % 256) : norm (a.take (k + 1)) = norm (b.take (k + 1)) := by
  simp only [norm, List.take_add_one, List.getElem?_eq_getElem ha, List.getElem?_eq_getElem hb, Option.toList_some, List.map_append, List.map_cons, List.map_nil] at *
  rw [h, e]

theorem dd (w : World) (a b : Nat) : ∃ n, (w.drewN a).drewN b = w.drewN n := ⟨a + b, by simp [World.drewN, Nat.add_assoc]⟩
theorem same_no {a b : List Nat} {k : Nat} (ha : k < a.length) (hb : k < b.length) (e : ¬ a[k] % 256 = b[k] % 256) : sameB a b = false := by
  simp only [sameB, decide_eq_false_iff_not]
  intro h
  have := congrArg (fun l => l[k]?) h
  simp [norm, ha, hb] at this
  exact e this
theorem same_yes {a b : List Nat} {k : Nat} (hl : a.length = b.length) (hk : a.length ≤ k) (h : norm (a.take k) = norm (b.take k)) : sameB a b = true := by
  rw [List.take_of_length_le hk, List.take_of_length_le (by omega)] at h
  simp [sameB, h]

set_option maxRecDepth 100000 in
theorem same_any (x y : Value) (a b : List Nat) (w : World) (hx : Src w x a) (hy : Src w y b) (ha : a.length ≤ 140737488355328) :
    Calls Tryd.prog 20 #[x, y] w fun e w' => e = .returned (.bool (sameB a b)) ∧ ∃ n, w' = w.drewN n := by
  have HX := hide hx
  have HY := hide hy
  obtain ⟨xo, xc, rfl⟩ := hx.form
  obtain ⟨yo, yc, rfl⟩ := hy.form
  clear hx hy
  by_cases hl : a.length = b.length
  · have hne : ((a.length : Int) != (b.length : Int)) = false := by simp [hl]
    have HL := hide hl
    clear hl
    go_enter Tryd.func20, Tryd.ntmps20
    go_wp2_with fail
    go_loopw [5] (fun i wr => ∃ k q : Nat, k ≤ a.length ∧ i = .int .i64 k ∧ norm (a.take k) = norm (b.take k) ∧ wr = w.drewN q) (fun i _ => a.length - (intOf i).toNat)
    case atStart => exact ⟨0, 0, Nat.zero_le _, rfl, rfl, rfl⟩
    case round =>
      obtain ⟨k, q, hk, rfl, hnm, rfl⟩ := hrel
      have HN := hide hnm
      clear hnm
      by_cases hlt : k < a.length
      · have hltb : k < b.length := by have := unhide HL; omega
        obtain ⟨g, o, rfl, hcx⟩ := src_at (unhide HX) k hlt
        obtain ⟨g', o', rfl, hcy⟩ := src_at (unhide HY) k hltb
        by_cases he : a[k] % 256 = b[k] % 256
        · have hq : ((((a[k] % 256 : Nat) : Int)) != ((b[k] % 256 : Nat) : Int)) = false := by simp only [bne_eq_false_iff_eq]; omega
          have HE := hide he
          clear he
          generalize hA : ((a[k] % 256 : Nat) : Int) = A at hcx hq
          generalize hB : ((b[k] % 256 : Nat) : Int) = Bv at hcy hq
          clear hA hB
          go_wp2_with fail
          go_quiet (fail)
          go_wp2_with fail
          go_roundw
          case rel => exact ⟨k + 1, q + _, by omega, by go_num, norm_take_succ hlt hltb (unhide HN) (unhide HE), rfl⟩
          case measure => simp [intOf]; omega
        · have hq : ((((a[k] % 256 : Nat) : Int)) != ((b[k] % 256 : Nat) : Int)) = true := by simp only [bne_iff_ne]; omega
          have HE := hide he
          clear he
          generalize hA : ((a[k] % 256 : Nat) : Int) = A at hcx hq
          generalize hB : ((b[k] % 256 : Nat) : Int) = Bv at hcy hq
          clear hA hB
          go_wp2_with fail
          go_quiet (fail)
          go_wp2_with fail
          go_ret
          exact ⟨by rw [same_no hlt hltb (unhide HE)]; rfl, dd w q _⟩
      · go_wp2_with fail
        go_ret
        exact ⟨by rw [same_yes (unhide HL) (by omega) (unhide HN)]; rfl, q, rfl⟩
  · have hne : ((a.length : Int) != (b.length : Int)) = true := by simp; omega
    have hs : sameB a b = false := by
      simp only [sameB, decide_eq_false_iff_not]
      intro h
      have := congrArg List.length h
      simp [norm] at this
      exact hl this
    rw [hs]
    clear hl hs
    go_enter Tryd.func20, Tryd.ntmps20
    go_wp2
    go_ret
    exact ⟨rfl, 0, rfl⟩

theorem Fr.of_drewN {S : Nat → Prop} {w w' : World} (h : ∃ n, w' = w.drewN n) : Fr S w w' := by
  obtain ⟨n, rfl⟩ := h
  exact (Fr.refl _ _).drewN n

theorem lit_src (w : World) (l : List Nat) (cs : Array Value) (n c : Nat) (hn : l.length = n) (h : cs.toList = cellsOf l) : Src (w.alloc (.cells cs 5)) (.slice (some ⟨w.heap.size, 0, none⟩) n c) l := by
  subst hn
  refine .inr (.inl ⟨w.heap.size, 0, c, rfl, fun j v hv => ?_⟩)
  rw [← h] at hv
  rw [Nat.zero_add, World.cell?_alloc_at _ _ _ _ rfl]
  simpa using hv
end Go.Proofs.YtikolmpgnpkdbaaDoor

namespace Go.Proofs.YtikolmpgnpkdbaaDoor
open Go.RowKit

set_option maxRecDepth 100000 in
theorem awake_any (E : Nat → Addr) (w : World) (hg : Gl w E) (hw : 9 ≤ w.heap.size) :
    Calls Tryd.prog 8 #[] w fun e w' => e = .returned (.bool true) ∧ Fr (fun _ => False) w w' := by
  have HG := hide hg
  clear hg
  go_enter Tryd.func8, Tryd.ntmps8
  go_wp2_with fail
  refine (newWriter_any w hw).mono ?_
  rintro e w1 ⟨rfl, hW, hf1⟩
  have HW := hide (And.intro hW hf1)
  clear hW hf1
  go_wp2_with fail
  refine (wU16_any _ 258 _ _ w1 (by decide) (unhide HW).1 (by simp)).mono ?_
  rintro e w2 ⟨rfl, F2, hW2, hc2⟩
  have HW2 := hide (And.intro hW2 hc2)
  clear hW2 hc2
  go_wp2_with fail
  refine (wDone_ok _ _ _ w2 (unhide HW2).1 rfl (by simp [be_length])).mono ?_
  rintro e w3 ⟨v, rfl, hv, hf3⟩
  obtain ⟨ao, cap, rfl⟩ := own_form hv
  have HV := hide (And.intro hv hf3)
  clear hv hf3
  go_wp2_with fail
  have hw3 : 9 ≤ w3.heap.size := Nat.le_trans hw (Nat.le_trans (unhide HW).2.size (Nat.le_trans (unhide HW2).2.fr.size (unhide HV).2.size))
  refine (newReader_any _ [1, 2, 3] _ (by simp; omega) (lit_src w3 [1, 2, 3] _ 3 3 rfl rfl) (by simp)).mono ?_
  rintro e w4 ⟨b4, F4, rfl, hR, hf4, hl4⟩
  have HR := hide (And.intro hR (And.intro hf4 hl4))
  clear hR hf4 hl4
  go_wp2_with fail
  have hfa : Fr (fun _ => False) w3 w4 := (box1 w3 _).trans (unhide HR).2.1 (fun _ _ h => h)
  refine (same_any _ _ (be 2 258) [1, 2] _ (Src.fr (own_src (unhide HV).1) (hfa.trans (box1 w4 _) (fun _ _ h => h)) (fun _ _ _ _ _ h => h)) (lit_src w4 [1, 2] _ 2 2 rfl rfl) (by simp [be_length])).mono ?_
  rintro e w5 ⟨rfl, hw5⟩
  rw [show sameB (be 2 258) [1, 2] = true from by decide]
  have hf5 : Fr (fun _ => False) w4 w5 := (box1 w4 _).trans (Fr.of_drewN hw5) (fun _ _ h => h)
  have hR5 := (unhide HR).1.frame hf5 (fun _ _ h => h)
  have ha2 : Fr (fun _ => False) w w2 := (unhide HW).2.trans (unhide HW2).2.fr (fun i hi h => by have h' : i = w.heap.size := h; omega)
  have hF05 : Fr (fun _ => False) w w5 := ((ha2.trans (unhide HV).2 (fun _ _ h => h)).trans hfa (fun _ _ h => h)).trans hf5 (fun _ _ h => h)
  have hG5 := (unhide HG).fr0 hF05
  have hbw : w.heap.size ≤ b4 := by
    have h1 := (unhide HR).2.2 b4 (unhide HR).1.fb
    have h2 := (ha2.trans (unhide HV).2 (fun _ _ h => h)).size
    simp at h1; omega
  have H5 := hide (And.intro hR5 (And.intro hF05 hG5))
  clear hfa hw5 hf5 hR5 hF05 hG5 HR HW2 HV HW hw3 ha2
  go_wp2_with fail
  refine (rU16_ok b4 F4 _ E w5 (unhide H5).2.2 (unhide H5).1 rfl (by simp)).mono ?_
  rintro e w6 ⟨rfl, hR6, hf6⟩
  have hb4 := (unhide H5).1.lo b4 (unhide H5).1.fb
  have hG6 := (unhide H5).2.2.frb hf6 hb4
  have H6 := hide (And.intro hR6 (And.intro hf6 hG6))
  clear hR6 hf6 hG6
  go_wp2_with fail
  refine (rAt_ok b4 F4 _ w6 (unhide H6).1 rfl).mono ?_
  rintro e w7 ⟨rfl, rfl⟩
  go_wp2_with fail
  refine (rErr_ok b4 F4 _ w7 (unhide H6).1 rfl).mono ?_
  rintro e w8 ⟨rfl, rfl⟩
  go_wp2_with fail
  refine (rDone_trail b4 F4 _ E w8 (unhide H6).2.2 (unhide H6).1 rfl (by simp)).mono ?_
  rintro e w9 ⟨fb, rfl, -, hf9, -⟩
  have H9 := hide hf9
  clear hf9
  go_wp2_with fail
  go_ret
  refine ⟨rfl, ((unhide H5).2.1.trans (unhide H6).2.1 (fun i hi h => by have h' : i = b4 := h; omega)).trans (unhide H9) (fun _ _ h => h)⟩
end Go.Proofs.YtikolmpgnpkdbaaDoor

namespace Go.Proofs.YtikolmpgnpkdbaaDoor
open Go.RowKit

theorem Ch.behind {w wa w' : World} {F F' : Nat → Prop} (h : Ch wa w' F F') (ha : Fr (fun _ => False) w wa) : Ch w w' F F' :=
  ⟨(ha.mono (fun _ _ h => h.elim)).trans h.fr (fun _ _ h => h), fun k hk => by
    rcases h.new k hk with hx | hx
    · exact .inl hx
    · exact .inr (Nat.le_trans ha.size hx)⟩

set_option maxRecDepth 100000 in
theorem lay1_any (b u : Nat) (s : ByteArray) (n m : Int) (F : Nat → Prop) (st : Wst) (w : World) (h : W w b F st) (hl : st.l.length + 1 ≤ 140737488355328) :
    Calls Tryd.prog 13 #[.pointer (some ⟨b, 0, none⟩), .agg #[.int .i64 1, .int .u64 u, .string s, .int .i64 n, .int .i64 m]] w fun e w' => e = .returned (.tuple #[]) ∧ ∃ F', W w' b F' (st.putB (be 1 (u % 256))) ∧ Ch w w' F F' := by
  have H := hide h
  clear h
  have hw : IntKind.u8.wrap (u : Int) = ((u % 256 : Nat) : Int) := by rw [IntKind.wrap_u8]; omega
  go_enter Tryd.func13, Tryd.ntmps13
  go_wp2_with fail
  refine (wU8_any b (u % 256) F st _ (Nat.mod_lt _ (by decide)) ((unhide H).frame (box1 w _) (fun _ _ h => h)) hl).mono ?_
  rintro e w' ⟨rfl, F', hW, hc⟩
  have HH := hide (And.intro hW hc)
  clear hW hc
  go_wp2_with fail
  go_end0
  exact ⟨rfl, F', (unhide HH).1, (unhide HH).2.behind (box1 w _)⟩
set_option maxRecDepth 100000 in
theorem lay2_any (b u : Nat) (s : ByteArray) (n m : Int) (F : Nat → Prop) (st : Wst) (w : World) (h : W w b F st) (hl : st.l.length + 2 ≤ 140737488355328) :
    Calls Tryd.prog 13 #[.pointer (some ⟨b, 0, none⟩), .agg #[.int .i64 2, .int .u64 u, .string s, .int .i64 n, .int .i64 m]] w fun e w' => e = .returned (.tuple #[]) ∧ ∃ F', W w' b F' (st.putB (be 2 (u % 65536))) ∧ Ch w w' F F' := by
  have H := hide h
  clear h
  have hw : IntKind.u16.wrap (u : Int) = ((u % 65536 : Nat) : Int) := by rw [IntKind.wrap_u16]; omega
  go_enter Tryd.func13, Tryd.ntmps13
  go_wp2_with fail
  refine (wU16_any b (u % 65536) F st _ (Nat.mod_lt _ (by decide)) ((unhide H).frame (box1 w _) (fun _ _ h => h)) hl).mono ?_
  rintro e w' ⟨rfl, F', hW, hc⟩
  have HH := hide (And.intro hW hc)
  clear hW hc
  go_wp2_with fail
  go_end0
  exact ⟨rfl, F', (unhide HH).1, (unhide HH).2.behind (box1 w _)⟩
set_option maxRecDepth 100000 in
theorem lay4_any (b u : Nat) (s : ByteArray) (n m : Int) (F : Nat → Prop) (st : Wst) (w : World) (h : W w b F st) (hl : st.l.length + 4 ≤ 140737488355328) :
    Calls Tryd.prog 13 #[.pointer (some ⟨b, 0, none⟩), .agg #[.int .i64 4, .int .u64 u, .string s, .int .i64 n, .int .i64 m]] w fun e w' => e = .returned (.tuple #[]) ∧ ∃ F', W w' b F' (st.putB (be 4 (u % 4294967296))) ∧ Ch w w' F F' := by
  have H := hide h
  clear h
  have hw : IntKind.u32.wrap (u : Int) = ((u % 4294967296 : Nat) : Int) := by rw [IntKind.wrap_u32]; omega
  go_enter Tryd.func13, Tryd.ntmps13
  go_wp2_with fail
  refine (wU32_any b (u % 4294967296) F st _ (Nat.mod_lt _ (by decide)) ((unhide H).frame (box1 w _) (fun _ _ h => h)) hl).mono ?_
  rintro e w' ⟨rfl, F', hW, hc⟩
  have HH := hide (And.intro hW hc)
  clear hW hc
  go_wp2_with fail
  go_end0
  exact ⟨rfl, F', (unhide HH).1, (unhide HH).2.behind (box1 w _)⟩

set_option maxRecDepth 100000 in
theorem lay8_any (b u : Nat) (s : ByteArray) (n m : Int) (F : Nat → Prop) (st : Wst) (w : World) (hu : u < 18446744073709551616) (h : W w b F st) (hl : st.l.length + 8 ≤ 140737488355328) :
    Calls Tryd.prog 13 #[.pointer (some ⟨b, 0, none⟩), .agg #[.int .i64 8, .int .u64 u, .string s, .int .i64 n, .int .i64 m]] w fun e w' => e = .returned (.tuple #[]) ∧ ∃ F', W w' b F' (st.putB (be 8 u)) ∧ Ch w w' F F' := by
  have H := hide h
  clear h
  go_enter Tryd.func13, Tryd.ntmps13
  go_wp2_with fail
  refine (wU64_any b u F st _ hu ((unhide H).frame (box1 w _) (fun _ _ h => h)) hl).mono ?_
  rintro e w' ⟨rfl, F', hW, hc⟩
  have HH := hide (And.intro hW hc)
  clear hW hc
  go_wp2_with fail
  go_end0
  exact ⟨rfl, F', (unhide HH).1, (unhide HH).2.behind (box1 w _)⟩

set_option maxRecDepth 100000 in
theorem lay7_any (b u : Nat) (s : ByteArray) (n m : Int) (F : Nat → Prop) (st : Wst) (E : Nat → Addr) (er : Addr) (w : World) (hn : n < 9223372036854775808) (hg : Gl w E) (hr : Rg w er) (h : W w b F st) (hl : st.l.length + 4 ≤ 140737488355328) :
    Calls Tryd.prog 13 #[.pointer (some ⟨b, 0, none⟩), .agg #[.int .i64 7, .int .u64 u, .string s, .int .i64 n, .int .i64 m]] w fun e w' => e = .returned (.tuple #[]) ∧ ∃ F', W w' b F' (st.cnt n m (E 2) er) ∧ Ch w w' F F' := by
  have H := hide (And.intro h (And.intro hg hr))
  clear h hg hr
  go_enter Tryd.func13, Tryd.ntmps13
  go_wp2_with fail
  refine (wCount_any b n m F st E er _ ((unhide H).2.1.fr0 (box1 w _)) ((unhide H).2.2.fr0 (box1 w _)) ((unhide H).1.frame (box1 w _) (fun _ _ h => h)) hn hl).mono ?_
  rintro e w' ⟨rfl, F', hW, hc⟩
  have HH := hide (And.intro hW hc)
  clear hW hc
  go_wp2_with fail
  go_end0
  exact ⟨rfl, F', (unhide HH).1, (unhide HH).2.behind (box1 w _)⟩

def Wst.txt (st : Wst) (s : ByteArray) (m : Int) (ea : Addr) : Wst := if (s.size : Int) ≤ m ∧ s.size < 4294967296 then st.putB (be 4 s.size ++ bytesOf s) else st.fail ea

set_option maxRecDepth 100000 in
theorem lay6t_any (b u : Nat) (s : ByteArray) (n m : Int) (F : Nat → Prop) (st : Wst) (E : Nat → Addr) (w : World) (hn : (n.tmod 2 == 0) = true) (hg : Gl w E) (h : W w b F st) (hs : s.size < 9223372036854775808) (hl : st.l.length + 4 + s.size ≤ 140737488355328) :
    Calls Tryd.prog 13 #[.pointer (some ⟨b, 0, none⟩), .agg #[.int .i64 6, .int .u64 u, .string s, .int .i64 n, .int .i64 m]] w fun e w' => e = .returned (.tuple #[]) ∧ ∃ F', W w' b F' (st.txt s m (E 2)) ∧ Ch w w' F F' := by
  have H := hide (And.intro h hg)
  clear h hg
  go_enter Tryd.func13, Tryd.ntmps13
  go_wp2_with fail
  refine (wText_any b s m F st E _ ((unhide H).2.fr0 (box1 w _)) ((unhide H).1.frame (box1 w _) (fun _ _ h => h)) hs hl).mono ?_
  rintro e w' ⟨rfl, F', hW, hc⟩
  have HH := hide (And.intro hW hc)
  clear hW hc
  go_wp2_with fail
  go_end0
  exact ⟨rfl, F', (unhide HH).1, (unhide HH).2.behind (box1 w _)⟩

theorem conv_bytes (w : World) (s : ByteArray) : ∃ cap w', (convert 9 25 (.string s)).run Tryd.prog w = .ok (.slice (some ⟨w.heap.size, 0, none⟩) s.size cap) w' ∧ Src w' (.slice (some ⟨w.heap.size, 0, none⟩) s.size cap) (bytesOf s) ∧ Fr (fun _ => False) w w' := by
  refine ⟨_, Lib.bytesWorld w 5 s, Lib.run_convert_string_bytes w 9 25 5 s Tryd.underlying9 Tryd.underlying25 Tryd.underlying5, ?_, ?_⟩
  · refine .inr (.inl ⟨w.heap.size, 0, _, by rw [bytesOf_length], fun j v hv => ?_⟩)
    have hj : j < s.size := by
      have := (List.getElem?_eq_some_iff.1 hv).1
      simpa [cellsOf_length, bytesOf_length] using this
    rw [Nat.zero_add, Lib.bytesWorld_cell w _ s j hj, ← hv, cellsOf_bytesOf]
    have hj' : j < s.data.size := hj
    simp [Lib.strCells, List.getD, Array.getElem?_eq_getElem hj']
  · exact ⟨rfl, rfl, rfl, by rw [Lib.bytesWorld_size]; omega, fun k hk _ => Lib.bytesWorld_at_old w _ s k hk⟩

set_option maxRecDepth 100000 in
theorem lay6b_any (b u : Nat) (s : ByteArray) (n m : Int) (F : Nat → Prop) (st : Wst) (E : Nat → Addr) (w : World) (hn : (n.tmod 2 == 0) = false) (hg : Gl w E) (h : W w b F st) (hs : s.size < 9223372036854775808) (hl : st.l.length + 4 + s.size ≤ 140737488355328) :
    Calls Tryd.prog 13 #[.pointer (some ⟨b, 0, none⟩), .agg #[.int .i64 6, .int .u64 u, .string s, .int .i64 n, .int .i64 m]] w fun e w' => e = .returned (.tuple #[]) ∧ ∃ F', W w' b F' (st.txt s m (E 2)) ∧ Ch w w' F F' := by
  obtain ⟨cap, w2, hcv, hsrc, hf2⟩ := conv_bytes (w.alloc (.cells #[.int .i64 6, .int .u64 u, .string s, .int .i64 n, .int .i64 m] 31)) s
  have hf := (box1 w (.cells #[.int .i64 6, .int .u64 u, .string s, .int .i64 n, .int .i64 m] 31)).trans hf2 (fun _ _ h => h)
  have hc0 : w2.cell? ⟨w.heap.size, 4, none⟩ = some (.int .i64 m) := (hf2.cell (by simp) (fun h => h)).trans (by simp)
  have H := hide (And.intro h (And.intro hg (And.intro hsrc hf)))
  have hb := h.lt b h.fb
  clear h hg hsrc hf hf2
  simp only [World.size_alloc] at hcv
  go_enter Tryd.func13, Tryd.ntmps13
  go_wp2_with fail
  refine (wBytes_any b (.slice (some ⟨w.heap.size + 1, 0, none⟩) s.size cap) (bytesOf s) m F st E w2 ((unhide H).2.1.fr0 (unhide H).2.2.2) ((unhide H).1.frame (unhide H).2.2.2 (fun _ _ h => h)) (by simpa using (unhide H).2.2.1) (fun g o mm c e hk => by simp only [Value.slice.injEq, Option.some.injEq, Addr.mk.injEq] at e; have := (unhide H).1.lt g hk; omega) (by rw [bytesOf_length]; exact hs) (by rw [bytesOf_length]; exact hl)).mono ?_
  rw [bytesOf_length]
  rintro e w' ⟨rfl, F', hW, hc⟩
  have HH := hide (And.intro hW hc)
  clear hW hc
  go_wp2_with fail
  go_end0
  exact ⟨rfl, F', (unhide HH).1, (unhide HH).2.behind (unhide H).2.2.2⟩

/-- What a call makes of a writer (numbers, texts, counts). -/
def Wst.lay (st : Wst) (p : Pt) (ea er : Addr) : Wst :=
  if p.k = 1 then st.putB (be 1 (p.u % 256)) else if p.k = 2 then st.putB (be 2 (p.u % 65536)) else if p.k = 4 then st.putB (be 4 (p.u % 4294967296)) else if p.k = 8 then st.putB (be 8 p.u) else if p.k = 6 then st.txt p.s p.m ea else if p.k = 7 then st.cnt p.n p.m ea er else st

theorem lay_any (p : Pt) (b : Nat) (F : Nat → Prop) (st : Wst) (E : Nat → Addr) (er : Addr) (w : World) (hk : p.k = 1 ∨ p.k = 2 ∨ p.k = 4 ∨ p.k = 8 ∨ p.k = 6 ∨ p.k = 7) (hu : p.u < 18446744073709551616) (hn : p.n < 9223372036854775808) (hg : Gl w E) (hr : Rg w er) (h : W w b F st) (hs : p.s.size < 9223372036854775808) (hl : st.l.length + 8 + p.s.size ≤ 140737488355328) :
    Calls Tryd.prog 13 #[.pointer (some ⟨b, 0, none⟩), .agg #[.int .i64 p.k, .int .u64 p.u, .string p.s, .int .i64 p.n, .int .i64 p.m]] w fun e w' => e = .returned (.tuple #[]) ∧ ∃ F', W w' b F' (st.lay p (E 2) er) ∧ Ch w w' F F' := by
  obtain ⟨k, u, s, n, m⟩ := p
  simp only at hk hu hn hs hl ⊢
  rcases hk with rfl | rfl | rfl | rfl | rfl | rfl
  · exact lay1_any b u s n m F st w h (by omega)
  · exact lay2_any b u s n m F st w h (by omega)
  · exact lay4_any b u s n m F st w h (by omega)
  · exact lay8_any b u s n m F st w hu h (by omega)
  · cases hm : (n.tmod 2 == 0)
    · exact lay6b_any b u s n m F st E w hm hg h hs (by omega)
    · exact lay6t_any b u s n m F st E w hm hg h hs (by omega)
  · exact lay7_any b u s n m F st E er w hn hg hr h (by omega)
end Go.Proofs.YtikolmpgnpkdbaaDoor

namespace Go.Proofs.YtikolmpgnpkdbaaDoor
open Go.RowKit

/-- Are these the bits of a quantity? -/
def quantB (x : Nat) : Bool := (x != 2147483648) && ((x &&& 2139095040) != 2139095040)

theorem isq_any (x : Nat) (hx : x < 4294967296) (w : World) : Calls Tryd.prog 76 #[.int .u32 x] w fun e w' => e = .returned (.bool (quantB x)) ∧ w' = w := by
  have ha : bits .and .u32 (x : Int) 2139095040 = ((x &&& 2139095040 : Nat) : Int) := u32_and_nat x 2139095040 hx (by decide)
  have e1 : ((x : Int) != 2147483648) = (x != 2147483648) := by rw [Bool.eq_iff_iff]; simp; omega
  have e2 : ((((x &&& 2139095040 : Nat) : Int)) != 2139095040) = ((x &&& 2139095040) != 2139095040) := by rw [Bool.eq_iff_iff]; simp; omega
  by_cases h1 : x = 2147483648
  · subst h1
    clear ha e1 e2
    go_enter Tryd.func76, Tryd.ntmps76
    go_wp2
    go_ret
    exact ⟨rfl, rfl⟩
  · have b1 : ((x : Int) != 2147483648) = true := by rw [e1]; simp [h1]
    have hq : quantB x = ((x &&& 2139095040) != 2139095040) := by simp [quantB, h1]
    rw [hq]
    clear e1 h1 hq
    go_enter Tryd.func76, Tryd.ntmps76
    go_wp2
    go_ret
    exact ⟨rfl, rfl⟩

theorem Tryd.fbits (x : Nat) (w : World) : (callFunc 44 #[.float .f32 x]).run Tryd.prog w = .ok (.value (.int .u32 x)) w := by
  have h := @run_callFunc_extern Tryd.prog 44 _ Extern.MathFloatBits.float32bits Tryd.func44 (by kernel_rfl) (by kernel_rfl) (by kernel_rfl) (by kernel_rfl) #[.float .f32 x] w
  rw [h]; rfl
theorem Tryd.ffrom (x : Nat) (w : World) : (callFunc 34 #[.int .u32 x]).run Tryd.prog w = .ok (.value (.float .f32 x)) w := by
  have h := @run_callFunc_extern Tryd.prog 34 _ Extern.MathFloatBits.float32frombits Tryd.func34 (by kernel_rfl) (by kernel_rfl) (by kernel_rfl) (by kernel_rfl) #[.int .u32 x] w
  rw [h]; rfl

theorem Adv.of_drewN {w w' : World} {b o n : Nat} {sv sv' : Value} {l : List Nat} (h : Adv (w.drewN n) w' b o sv sv' l) : Adv w w' b o sv sv' l :=
  ⟨⟨h.fr.os, h.fr.tape, h.fr.output, h.fr.size, h.fr.block⟩, h.c2, h.own, fun i hi => (h.cs i hi).trans (World.cell?_drewN _ _ _), fun i => (h.fz i).trans (World.frozen?_drewN _ _ _), h.at_⟩

set_option maxRecDepth 100000 in
theorem wF32_clo (b x : Nat) (p0 p1 er : Addr) (sv : Value) (l : List Nat) (w : World) (hx : x < 4294967296) (hq : quantB x = true) (hr : Rg w er)
    (hp0 : w.cell? p0 = some (.float .f32 x)) (hp1 : w.cell? p1 = some (.pointer (some ⟨b, 0, none⟩)))
    (h2 : w.cell? ⟨b, 2, none⟩ = some sv) (f2 : w.frozen? ⟨b, 2, none⟩ = false) (ho : w.ownsRow (b + 1) 5 1 sv l.length (cellsOf l)) (hl : l.length + 4 ≤ 140737488355328) :
    Calls Tryd.prog 74 #[.pointer (some p0), .pointer (some p1)] w fun e w' => e = .returned (.tuple #[]) ∧ ∃ sv', Adv w w' b 2 sv sv' (l ++ be 4 x) := by
  have HO := hide ho
  clear ho
  unfold Rg at hr
  have hfb := Tryd.fbits
  have hnot : ∀ (x : Bool) (w : World), (Op.unary .not (.bool x)).run Tryd.prog w = .ok (.bool (!x)) w := fun _ _ => rfl
  go_enter Tryd.func74, Tryd.ntmps74
  go_wp2_with fail
  go_quiet ((first | (go_at_call 76; exact Calls.quiet_of_same ((isq_any x hx _).mono (fun e w' h => by rw [hq] at h; exact h))) | (go_at_call 75; exact Calls.quiet_of_same (wrefuse_no _ _ _))))
  go_wp2_with fail
  refine (number_any b 4 x sv l _ (by decide) (by simpa using h2) (by simpa using f2) (by exact unhide HO) hl).mono ?_
  rintro e w' ⟨rfl, sv', hA⟩
  go_wp2_with fail
  go_end0
  exact ⟨rfl, sv', hA.of_drewN⟩

set_option maxHeartbeats 2000000 in
set_option maxRecDepth 100000 in
theorem wF32_clo_bad (b x : Nat) (p0 p1 er : Addr) (nm : ByteArray) (ao : Option Addr) (ln cap : Nat) (w : World) (hx : x < 4294967296) (hq : quantB x = false) (hr : Rg w er)
    (hp0 : w.cell? p0 = some (.float .f32 x)) (hp1 : w.cell? p1 = some (.pointer (some ⟨b, 0, none⟩))) (h0 : w.cell? ⟨b, 0, none⟩ = some (.string nm)) (h2 : w.cell? ⟨b, 2, none⟩ = some (.slice ao ln cap)) :
    Calls Tryd.prog 74 #[.pointer (some p0), .pointer (some p1)] w fun e w' => ∃ fa, e = .panicked [thrown fa] ∧ Bad w w' fa nm ln er := by
  unfold Rg at hr
  have hfb := Tryd.fbits
  have hnot : ∀ (x : Bool) (w : World), (Op.unary .not (.bool x)).run Tryd.prog w = .ok (.bool (!x)) w := fun _ _ => rfl
  go_enter Tryd.func74, Tryd.ntmps74
  go_wp2_with fail
  go_region_dies
  all_goals
    go_wp2_with fail
    refine (isq_any x hx _).mono ?_
    rintro e w1 ⟨rfl, rfl⟩
    rw [hq]
  all_goals
    rename_i hK
    refine hK _ _ ?_
    clear hK
    refine wpAny_take (i := 3) (v := ?_) rfl (by kernel_rfl) (by kernel_rfl) (by kernel_rfl) (fun _ _ _ h => h) (Or.inl ⟨by rfl, ?_⟩) ?_
    rotate_left
    · intro w
      go_simp
      try with_reducible rfl
  · refine wpAny_ready (rs := [4]) (by kernel_rfl) (by simp) ?_
    refine AllReady.cons rfl (fun K hK => ?_) AllReady.nil
    go_simp
    refine hK _ _ ?_
    clear hK K
    refine wpAny_ready (rs := [5]) (by kernel_rfl) (by simp) ?_
    refine AllReady.cons rfl (fun K hK => ?_) AllReady.nil
    go_simp
    go_wp2_with fail
    refine (wrefuse_yes b ln cap ao nm er w.drew (by simpa using h0) (by simpa using h2)).mono ?_
    rintro e w1 ⟨rfl, rfl⟩
    exact ⟨rfl, _, rfl, bad_of_drew w nm ln er⟩
  · refine wpAny_ready (rs := [5]) (by kernel_rfl) (by simp) ?_
    refine AllReady.cons rfl (fun K hK => ?_) AllReady.nil
    go_simp
    go_wp2_with fail
    refine (wrefuse_yes b ln cap ao nm er w.drew (by simpa using h0) (by simpa using h2)).mono ?_
    rintro e w1 ⟨rfl, rfl⟩
    exact ⟨rfl, _, rfl, bad_of_drew w nm ln er⟩
  · refine wpAny_ready (rs := [0, 4]) (by kernel_rfl) (by simp) ?_
    refine AllReady.cons rfl (fun K hK => ?_) (AllReady.cons rfl (fun K hK => ?_) AllReady.nil)
    · go_simp
      refine hK _ _ ?_
      clear hK K
      refine wpAny_ready (rs := [4]) (by kernel_rfl) (by simp) ?_
      refine AllReady.cons rfl (fun K hK => ?_) AllReady.nil
      go_simp
      refine hK _ _ ?_
      clear hK K
      refine wpAny_ready (rs := [5]) (by kernel_rfl) (by simp) ?_
      refine AllReady.cons rfl (fun K hK => ?_) AllReady.nil
      go_simp
      go_wp2_with fail
      refine (wrefuse_yes b ln cap ao nm er w.drew (by simpa using h0) (by simpa using h2)).mono ?_
      rintro e w1 ⟨rfl, rfl⟩
      exact ⟨rfl, _, rfl, bad_of_drew w nm ln er⟩
    · go_simp
      refine hK _ _ ?_
      clear hK K
      refine wpAny_ready (rs := [0]) (by kernel_rfl) (by simp) ?_
      refine AllReady.cons rfl (fun K hK => ?_) AllReady.nil
      go_simp
      refine hK _ _ ?_
      clear hK K
      refine wpAny_ready (rs := [5]) (by kernel_rfl) (by simp) ?_
      refine AllReady.cons rfl (fun K hK => ?_) AllReady.nil
      go_simp
      go_wp2_with fail
      refine (wrefuse_yes b ln cap ao nm er w.drew (by simpa using h0) (by simpa using h2)).mono ?_
      rintro e w1 ⟨rfl, rfl⟩
      exact ⟨rfl, _, rfl, bad_of_drew w nm ln er⟩
  · refine wpAny_ready (rs := [5]) (by kernel_rfl) (by simp) ?_
    refine AllReady.cons rfl (fun K hK => ?_) AllReady.nil
    go_simp
    go_wp2_with fail
    refine (wrefuse_yes b ln cap ao nm er w.drew (by simpa using h0) (by simpa using h2)).mono ?_
    rintro e w1 ⟨rfl, rfl⟩
    exact ⟨rfl, _, rfl, bad_of_drew w nm ln er⟩
  · refine wpAny_ready (rs := [0]) (by kernel_rfl) (by simp) ?_
    refine AllReady.cons rfl (fun K hK => ?_) AllReady.nil
    go_simp
    refine hK _ _ ?_
    clear hK K
    refine wpAny_ready (rs := [5]) (by kernel_rfl) (by simp) ?_
    refine AllReady.cons rfl (fun K hK => ?_) AllReady.nil
    go_simp
    go_wp2_with fail
    refine (wrefuse_yes b ln cap ao nm er w.drew (by simpa using h0) (by simpa using h2)).mono ?_
    rintro e w1 ⟨rfl, rfl⟩
    exact ⟨rfl, _, rfl, bad_of_drew w nm ln er⟩
end Go.Proofs.YtikolmpgnpkdbaaDoor

namespace Go.Proofs.YtikolmpgnpkdbaaDoor
open Go.RowKit

/-- What F32 makes of a writer. -/
def Wst.flt (s : Wst) (x : Nat) (er : Addr) : Wst := if quantB x = true then s.putB (be 4 x) else s.fail er

set_option maxRecDepth 100000 in
theorem wF32_any (b x : Nat) (F : Nat → Prop) (s : Wst) (er : Addr) (w : World) (hr : Rg w er) (h : W w b F s) (hx : x < 4294967296) (hl : s.l.length + 4 ≤ 140737488355328) :
    Calls Tryd.prog 33 #[.pointer (some ⟨b, 0, none⟩), .float .f32 x] w fun e w' => e = .returned (.tuple #[]) ∧ ∃ F', W w' b F' (s.flt x er) ∧ Ch w w' F F' := by
  have hb := h.lt b h.fb
  have hmf := mf
  have HG := hide hr
  clear hr
  by_cases hn : s.f = none
  · have HN := hide hn
    by_cases hq : quantB x = true
    · rw [Wst.flt, if_pos hq, Wst.putB, if_pos hn]
      clear hn
      go_enter Tryd.func33, Tryd.ntmps33
      go_wp2_with fail
      refine (att_ok (w := w) (be 4 x) h (unhide HN) (box2 _ _ _) (enters Tryd.func74 (by kernel_rfl) (by kernel_rfl) _) (fun wk sv hk h2 f2 ho hF => wF32_clo b x ⟨w.heap.size + 1, 0, none⟩ ⟨w.heap.size, 0, none⟩ er sv s.l wk hx hq ((unhide HG).fr0 ((box2 _ _ _).trans hk (fun _ _ h => h))) ((hk.cell (by simp) (fun h => h)).trans (by simp)) ((hk.cell (by simp <;> omega) (fun h => h)).trans (by simp)) h2 f2 ho hl)).mono ?_
      rintro e w' ⟨rfl, hq⟩
      go_wp2_with fail
      go_end0
      exact ⟨rfl, hq⟩
    · have hq' : quantB x = false := by simpa using hq
      rw [Wst.flt, if_neg hq, Wst.fail, if_pos hn]
      clear hn hq
      go_enter Tryd.func33, Tryd.ntmps33
      go_wp2_with fail
      refine (att_bad (w := w) s.l.length er h (unhide HN) (box2 _ _ _) (enters Tryd.func74 (by kernel_rfl) (by kernel_rfl) _) (fun wk hk hW => by
        obtain ⟨ao, cap, h2⟩ := hW.sv (unhide HN)
        exact wF32_clo_bad b x ⟨w.heap.size + 1, 0, none⟩ ⟨w.heap.size, 0, none⟩ er s.nm ao s.l.length cap wk hx hq' ((unhide HG).fr0 ((box2 _ _ _).trans hk (fun _ _ h => h))) ((hk.cell (by simp) (fun h => h)).trans (by simp)) ((hk.cell (by simp <;> omega) (fun h => h)).trans (by simp)) hW.c0 h2)).mono ?_
      rintro e w' ⟨rfl, hq⟩
      go_wp2_with fail
      go_end0
      exact ⟨rfl, hq⟩
  · have HN := hide hn
    have e : s.flt x er = s := by simp [Wst.flt, Wst.putB, Wst.fail, hn]
    rw [e]
    clear hn e
    go_enter Tryd.func33, Tryd.ntmps33
    go_wp2_with fail
    refine (att_given (w := w) h (unhide HN) (box2 _ _ _)).mono ?_
    rintro e w' ⟨rfl, hq⟩
    go_wp2_with fail
    go_end0
    exact ⟨rfl, hq⟩

set_option maxRecDepth 100000 in
theorem lay5_any (b u : Nat) (s : ByteArray) (n m : Int) (F : Nat → Prop) (st : Wst) (er : Addr) (w : World) (hr : Rg w er) (h : W w b F st) (hl : st.l.length + 4 ≤ 140737488355328) :
    Calls Tryd.prog 13 #[.pointer (some ⟨b, 0, none⟩), .agg #[.int .i64 5, .int .u64 u, .string s, .int .i64 n, .int .i64 m]] w fun e w' => e = .returned (.tuple #[]) ∧ ∃ F', W w' b F' (st.flt (u % 4294967296) er) ∧ Ch w w' F F' := by
  have H := hide (And.intro h hr)
  clear h hr
  have hff : ∀ w, (callFunc 34 #[.int .u32 ((u : Int) % 4294967296)]).run Tryd.prog w = .ok (.value (.float .f32 (u % 4294967296))) w := fun w => Tryd.ffrom (u % 4294967296) w
  have hw : IntKind.u32.wrap (u : Int) = (u : Int) % 4294967296 := by rw [IntKind.wrap_u32]
  go_enter Tryd.func13, Tryd.ntmps13
  go_wp2_with fail
  refine (wF32_any b (u % 4294967296) F st er _ ((unhide H).2.fr0 (box1 w _)) ((unhide H).1.frame (box1 w _) (fun _ _ h => h)) (Nat.mod_lt _ (by decide)) hl).mono ?_
  rintro e w' ⟨rfl, F', hW, hc⟩
  have HH := hide (And.intro hW hc)
  clear hW hc
  go_wp2_with fail
  go_end0
  exact ⟨rfl, F', (unhide HH).1, (unhide HH).2.behind (box1 w _)⟩

set_option maxRecDepth 100000 in
theorem lay10_any (b u : Nat) (s : ByteArray) (n m : Int) (F : Nat → Prop) (st : Wst) (w : World) (h : W w b F st) :
    Calls Tryd.prog 13 #[.pointer (some ⟨b, 0, none⟩), .agg #[.int .i64 10, .int .u64 u, .string s, .int .i64 n, .int .i64 m]] w fun e w' => e = .returned (.tuple #[]) ∧ ∃ F', W w' b F' { st with nm := s } ∧ Ch w w' F F' := by
  have H := hide h
  clear h
  go_enter Tryd.func13, Tryd.ntmps13
  go_wp2_with fail
  refine (wName_any b s F st _ ((unhide H).frame (box1 w _) (fun _ _ h => h))).mono ?_
  rintro e w' ⟨rfl, hW, hc⟩
  have HH := hide (And.intro hW hc)
  clear hW hc
  go_wp2_with fail
  go_end0
  exact ⟨rfl, F, (unhide HH).1, (unhide HH).2.behind (box1 w _)⟩

/-- What any call but Fail makes of a writer. -/
def Wst.layA (st : Wst) (p : Pt) (ea er : Addr) : Wst := if p.k = 5 then st.flt (p.u % 4294967296) er else if p.k = 10 then { st with nm := p.s } else st.lay p ea er

theorem layA_any (p : Pt) (b : Nat) (F : Nat → Prop) (st : Wst) (E : Nat → Addr) (er : Addr) (w : World) (hk : p.k ∈ kinds) (h9 : p.k ≠ 9) (hu : p.u < 18446744073709551616) (hn : p.n < 9223372036854775808) (hg : Gl w E) (hr : Rg w er) (h : W w b F st) (hs : p.s.size < 9223372036854775808) (hl : st.l.length + 8 + p.s.size ≤ 140737488355328) :
    Calls Tryd.prog 13 #[.pointer (some ⟨b, 0, none⟩), .agg #[.int .i64 p.k, .int .u64 p.u, .string p.s, .int .i64 p.n, .int .i64 p.m]] w fun e w' => e = .returned (.tuple #[]) ∧ ∃ F', W w' b F' (st.layA p (E 2) er) ∧ Ch w w' F F' := by
  by_cases h5 : p.k = 5
  · rw [Wst.layA, if_pos h5, h5]
    exact lay5_any b p.u p.s p.n p.m F st er w hr h (by omega)
  by_cases h10 : p.k = 10
  · rw [Wst.layA, if_neg h5, if_pos h10, h10]
    exact lay10_any b p.u p.s p.n p.m F st w h
  rw [Wst.layA, if_neg h5, if_neg h10]
  refine lay_any p b F st E er w ?_ hu hn hg hr h hs hl
  simp only [kinds, List.mem_cons, List.not_mem_nil, or_false] at hk
  omega
end Go.Proofs.YtikolmpgnpkdbaaDoor

