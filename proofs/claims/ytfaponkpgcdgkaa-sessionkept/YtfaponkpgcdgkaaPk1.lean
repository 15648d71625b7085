import Derived.Test.YtfaponkpgcdgkaaZcc
import Derived.Test.YtfaponkpgcdgkaaZai
import Derived.Test.YtfaponkpgcdgkaaZcb
import Derived.BigQuiet
import Derived.Laws.StructEq
namespace Go.Proofs.Ytfaponkpgcdgkaa
open Go.RowKit Go.Maps

theorem wrapS (k : Nat) (h : k ≤ 1000000000) : wrap64 ((k : Int) + 1) = (k : Int) + 1 := by unfold wrap64; omega
theorem wrapU (k : Nat) (h : k ≤ 1000000000) : IntKind.u32.wrap ((k : Int) + 1) = (k : Int) + 1 := by
  have e : ((k : Int) + 1) % 4294967296 = (k : Int) + 1 := by omega
  simp [IntKind.wrap, IntKind.bits, IntKind.signed, e]
theorem eql_00 (w : World) : (binOp .eql 29 (.agg #[.int .u32 0, .int .u32 0]) (.agg #[.int .u32 0, .int .u32 0])).run Try.prog w = .ok (.bool true) w := eql_id 0 0 0 0 w
/-- SessionMany's loop: all that were called are answered. -/
structure MI (w wr : World) (d i : Nat) (cs : List SC) (dn : List Nat) (T : Nat → Prop) : Prop where
  s : SS wr d 15 cs dn T
  c : cs.length = i
  n : dn.length = i
  a : ∀ q ∈ cs, q.d.isSome = true
  b : ∀ g, T g → w.heap.size ≤ g
  f : Fr (fun _ => False) w wr
theorem wl_nil {cs : List SC} (h : ∀ q ∈ cs, q.d.isSome = true) : wl cs = [] := by
  apply List.eq_nil_iff_forall_not_mem.2
  intro k hk
  have h1 := (wl_mem cs k).1 hk
  unfold fW at h1
  split at h1
  · cases h1
  · cases hq : cs[k - 1]? with
    | none => rw [hq] at h1; cases h1
    | some q =>
      rw [hq] at h1
      have := h q (List.mem_of_getElem? hq)
      cases hd : q.d with
      | none => rw [hd] at this; cases this
      | some x => simp [hd] at h1
set_option maxRecDepth 100000 in
set_option maxHeartbeats 4000000 in
/-- SessionMany. -/
theorem smany_any (w : World) : Calls Try.prog 6 #[] w fun e w' => e = .returned (.bool true) ∧ Fr (fun _ => False) w w' := by
  go_enter Try.func6, Try.ntmps6
  go_wp2_with fail
  refine (awake17 w).mono ?_
  rintro e w0 ⟨rfl, hf0⟩
  have HF0 := hide hf0
  clear hf0
  go_wp2_with fail
  refine (SS.new 15 w0 (by omega)).mono ?_
  rintro e w1 ⟨d, rfl, hs1, hf1⟩
  have HM : Hid (MI w w1 d 0 [] [] (Nb w0 w1)) := hide ⟨hs1, rfl, rfl, (fun q hq => by simp at hq), (fun g hg => Nat.le_trans (unhide HF0).size hg.1), (unhide HF0).trans0 hf1⟩
  clear hs1 hf1
  go_wp2_with fail
  go_loopw [3] (fun iv wr => ∃ (i : Nat) (cs : List SC) (dn : List Nat) (T : Nat → Prop), i ≤ 4096 ∧ iv = .int .i64 (i : Nat) ∧ MI w wr d i cs dn T) (fun iv _ => 4096 - (intOf iv).toNat)
  case atStart => exact ⟨0, [], [], _, by omega, rfl, unhide HM⟩
  case round =>
    obtain ⟨i, cs, dn, T, hi, rfl, hM⟩ := hrel
    clear HM
    rename World => wr
    have HI := hide hM
    clear hM
    by_cases hlt : i < 4096
    · have hlt2 : (i : Int) < 4096 := by omega
      go_wp2_with fail
      refine (create_any _).mono ?_
      rintro e w2 ⟨rfl, hf2⟩
      have HC : Hid (Calls Try.prog 10 #[.pointer (some ⟨d, 0, none⟩), crR.v] w2 fun e w' => e = .returned (.tuple #[.agg #[.int .u32 15, .int .u32 ((i : Int) + 1)], .int .i64 0]) ∧ (∃ v, SS w' d 15 (cs ++ [⟨⟨15, i + 1, 1, 1, 0, 0, 7, 6, v, ⟨#[]⟩⟩, [], 0, 0, none⟩]) dn (Tn T w2 w')) ∧ Fr T w2 w') := hide (by
        have := ((unhide HI).s.fr0 hf2).call crR [] (Rd.nil w2 5) (by simp) (fun f hf => by simp at hf) rfl (by rw [(unhide HI).c]; exact hlt)
        rw [(unhide HI).c] at this
        exact this)
      have HF2 := hide hf2
      clear hf2
      go_wp2_with fail
      refine (unhide HC).mono ?_
      rintro e w3 ⟨rfl, ⟨v, hs3⟩, hf3⟩
      have HS3 := hide (And.intro hs3 hf3)
      clear hs3 hf3 HC
      have hw1 := wrapS i (by omega)
      have hw2 := wrapU i (by omega)
      go_wp2_with fail
      have HA : Hid (∀ W, Calls Try.prog 16 #[.int .u32 15, .int .u32 ((i : Int) + 1), .int .u32 1] W fun e w' => e = .returned (.agg (ansM 15 (i + 1) 1).toArray) ∧ Fr (fun _ => False) W w') := hide (fun W => answered_any 15 (i + 1) 1 W)
      refine ((unhide HA) _).mono ?_
      rintro e w5 ⟨rfl, hf5⟩
      have hf35 : Fr (fun _ => False) w3 w5 := (box1 w3 _).trans0 hf5
      have hlc := (unhide HI).c
      have hln := (unhide HI).n
      have HT := hide (((unhide HS3).1.fr0 hf35).answer (ansM 15 (i + 1) 1) 0 0 0 (ansA 15 (i + 1) 1) (ansM_x 15 (i + 1) 1) i _ (by rw [← hlc]; exact List.getElem?_concat_length) rfl rfl rfl [] [] (Rd.nil w5 5) (Rd.nil w5 4) (by simp) (by simp) (by omega))
      have HF5 := hide hf35
      clear hf5 hf35 HA hlc hln
      go_wp2_with fail
      refine (unhide HT).mono ?_
      rintro e w6 ⟨r6, rfl, rfl, ⟨v6, u6, hs6⟩, hf6⟩
      clear HT
      have h2 := unhide HF2
      have h3 := (unhide HS3).2
      have h5 := unhide HF5
      have hb := (unhide HI).b
      have hbT3 : ∀ g, Tn T w2 w3 g → w.heap.size ≤ g := fun g hg => by
        rcases hg with hg | hg
        · exact hb g hg
        · have := hg.1; have := (unhide HI).f.size; have := h2.size; omega
      have hfw3 : Fr (fun _ => False) w w3 := ((unhide HI).f.trans0 h2).trans h3 (fun g hg e => by have := hb g e; omega)
      have hfw5 := hfw3.trans0 h5
      have hfw6 : Fr (fun _ => False) w w6 := hfw5.trans hf6 (fun g hg e => by have := hbT3 g e; omega)
      have hset : ∀ x y : SC, (cs ++ [x]).set i y = cs ++ [y] := fun x y => by
        rw [List.set_append_right _ _ (by rw [(unhide HI).c]; exact Nat.le_refl _), (unhide HI).c, Nat.sub_self]
        rfl
      rw [hset] at hs6
      have HM6 : Hid (∃ cs' dn' T', MI w w6 d (i + 1) cs' dn' T') := hide ⟨_, _, _, hs6, by simp [(unhide HI).c], by simp [(unhide HI).n], (fun q hq => by
        rcases List.mem_append.1 hq with hq' | hq'
        · exact (unhide HI).a q hq'
        · simp at hq'; subst hq'; rfl), (fun g hg => by
          rcases hg with hg | hg
          · exact hbT3 g hg
          · have := hg.1; have := hfw5.size; omega), hfw6⟩
      clear h2 h3 h5 hb hbT3 hfw3 hfw5 hfw6 hs6 hf6 HF5 HS3 HF2 hset
      go_wp2_with fail
      go_roundw
      case rel =>
        obtain ⟨cs', dn', T', hm⟩ := unhide HM6
        exact ⟨i + 1, cs', dn', T', by omega, by go_num, hm⟩
      case measure => simp [intOf]; omega
    · obtain rfl : i = 4096 := by omega
      clear hlt
      go_wp2_with fail
      refine (create_any _).mono ?_
      rintro e w2 ⟨rfl, hf2⟩
      have HC := hide (((unhide HI).s.fr0 hf2).full crR [] (Rd.nil w2 5) (by simp) (fun f hf => by simp at hf) rfl (unhide HI).c)
      have HF2 := hide hf2
      clear hf2
      go_wp2_with fail
      refine (unhide HC).mono ?_
      rintro e w3 ⟨rfl, hf3⟩
      have HF3 := hide hf3
      clear HC hf3
      have heq := eql_00
      go_wp2_with fail
      have hs4 : SS (w3.alloc (.cells #[.int .u32 0, .int .u32 0] 29)) d 15 cs dn T := (((unhide HI).s.fr0 (unhide HF2)).fr0 (unhide HF3)).fr0 (box1 _ _)
      have hl := (unhide HI).n
      refine hs4.done.mono ?_
      rintro e w5 ⟨v5, rfl, ho5, hf5⟩
      obtain ⟨ao5, cap5, e5⟩ := own_formX ho5
      rw [List.length_map, hl] at e5
      subst e5
      have hs5 := hs4.fr0 hf5
      have HS5 := hide (And.intro hs5 hf5)
      clear hs4 hs5 hf5 ho5 hl
      go_wp2_with fail
      refine (unhide HS5).1.waiting.mono ?_
      rintro e w6 ⟨v6, rfl, ho6, hf6⟩
      rw [wl_nil (unhide HI).a] at ho6
      obtain ⟨ao6, cap6, e6⟩ := own_formX ho6
      have e6' : v6 = .slice ao6 0 cap6 := e6
      subst e6'
      have HF6 : Hid (Fr (fun _ => False) w w6) := hide ((((((unhide HI).f.trans0 (unhide HF2)).trans0 (unhide HF3)).trans0 (box1 _ _)).trans0 (unhide HS5).2).trans0 hf6)
      clear ho6 hf6 e6
      go_wp2_with fail
      go_ret
      exact ⟨rfl, unhide HF6⟩
end Go.Proofs.Ytfaponkpgcdgkaa

namespace Go.Proofs.Ytfaponkpgcdgkaa
open Go.RowKit

theorem scells_app (a : List SM) (s : SM) : scells (a ++ [s]) = scells a ++ [.int .u32 (s.au : Nat), .int .u32 (s.ev : Nat), .int .u32 (s.nf : Nat), .bool s.rd] := by simp [scells]
/-- append(l, s). -/
theorem app_sum (w : World) (base : Nat) (v : Value) (l : List SM) (s : SM) (h : OwS w base v l) (hb : base ≤ w.heap.size) (hl : l.length ≤ 1000000000) :
    ∃ ao cap w', (Builtin.append_ #[42, 42] 42 #[v, .slice (some ⟨w.heap.size, 0, none⟩) 1 1]).run Try.prog (w.alloc (.cells #[.int .u32 (s.au : Nat), .int .u32 (s.ev : Nat), .int .u32 (s.nf : Nat), .bool s.rd] 81)) = .ok (.slice ao (l.length + 1) cap) w' ∧ OwS w' base (.slice ao (l.length + 1) cap) (l ++ [s]) ∧ Fr (fun g => v.ownBlock = some g) w w' ∧
      ∀ g, (Value.slice ao (l.length + 1) cap).ownBlock = some g → v.ownBlock = some g ∨ w.heap.size ≤ g := by
  obtain ⟨i0, hi, hz0, hz1, hz2⟩ := info_parts Try.infoSm
  have hb' := ownsRow_of_block (w' := w.alloc (.cells #[.int .u32 (s.au : Nat), .int .u32 (s.ev : Nat), .int .u32 (s.nf : Nat), .bool s.rd] 81)) h (fun g hg => Below.heap_alloc _ _ _ (h.lt g hg).2)
  obtain ⟨v', w', hr, h2, h3, _, h5⟩ := run_append_own_at (P := Try.prog) (w := w.alloc (.cells #[.int .u32 (s.au : Nat), .int .u32 (s.ev : Nat), .int .u32 (s.nf : Nat), .bool s.rd] 81)) base 42 42 81 i0 (.agg #[.int .u32 0, .int .u32 0, .int .u32 0, .bool false]) 4 16 Try.underlying42 hi hz0 hz1 hz2 rfl (by decide) v l.length (scells l) hb' ⟨w.heap.size, 0, none⟩ 1 1 [.int .u32 (s.au : Nat), .int .u32 (s.ev : Nat), .int .u32 (s.nf : Nat), .bool s.rd] rfl (fun j u hu => by
    rw [addr_add, World.cell?_alloc_at _ _ _ _ rfl]; simpa using hu) (fun u hu => by simp at hu; rcases hu with rfl | rfl | rfl | rfl <;> rfl) (by simp only [maxLen]; omega) (by omega) (by simp; omega)
  obtain ⟨ao, cap, rfl⟩ := own_formX h2
  refine ⟨ao, cap, w', hr, by unfold OwS; rw [scells_app, List.length_append, List.length_singleton]; exact h2, ((box1 w _).mono (fun _ _ h => h.elim)).grown h3 (fun g hg => .inl hg), fun g hg => ?_⟩
  rcases h5 with e | e
  · rw [e] at hg; exact .inl hg
  · rw [e] at hg; cases hg; exact .inr (by simp)
/-- Strings of one's own. -/
def OwT (w : World) (base : Nat) (v : Value) (l : List ByteArray) : Prop := w.ownsRow base 9 1 v l.length (l.map Value.string)
theorem Try.infoTx : (Try.prog.info? 9).map (fun i => (i.zero, i.size, i.bytes)) = some (some (.string ⟨#[]⟩), 1, 16) := by kernel_rfl
/-- append(l, t). -/
theorem app_txt (w : World) (base : Nat) (v : Value) (l : List ByteArray) (s : ByteArray) (h : OwT w base v l) (hb : base ≤ w.heap.size) (hl : l.length ≤ 1000000000) :
    ∃ ao cap w', (Builtin.append_ #[76, 76] 76 #[v, .slice (some ⟨w.heap.size, 0, none⟩) 1 1]).run Try.prog (w.alloc (.cells #[.string s] 9)) = .ok (.slice ao (l.length + 1) cap) w' ∧ OwT w' base (.slice ao (l.length + 1) cap) (l ++ [s]) ∧ Fr (fun g => v.ownBlock = some g) w w' ∧
      ∀ g, (Value.slice ao (l.length + 1) cap).ownBlock = some g → v.ownBlock = some g ∨ w.heap.size ≤ g := by
  obtain ⟨i0, hi, hz0, hz1, hz2⟩ := info_parts Try.infoTx
  have hb' := ownsRow_of_block (w' := w.alloc (.cells #[.string s] 9)) h (fun g hg => Below.heap_alloc _ _ _ (h.lt g hg).2)
  obtain ⟨v', w', hr, h2, h3, _, h5⟩ := run_append_own_at (P := Try.prog) (w := w.alloc (.cells #[.string s] 9)) base 76 76 9 i0 (.string ⟨#[]⟩) 1 16 Try.underlying76 hi hz0 hz1 hz2 rfl (by decide) v l.length (l.map Value.string) hb' ⟨w.heap.size, 0, none⟩ 1 1 [.string s] rfl (fun j u hu => by
    rw [addr_add, World.cell?_alloc_at _ _ _ _ rfl]; simpa using hu) (fun u hu => by simp at hu; subst hu; rfl) (by simp only [maxLen]; omega) (by omega) (by simp; omega)
  obtain ⟨ao, cap, rfl⟩ := own_formX h2
  refine ⟨ao, cap, w', hr, by unfold OwT; rw [List.map_append, List.length_append, List.length_singleton]; exact h2, ((box1 w _).mono (fun _ _ h => h.elim)).grown h3 (fun g hg => .inl hg), fun g hg => ?_⟩
  rcases h5 with e | e
  · rw [e] at hg; exact .inl hg
  · rw [e] at hg; cases hg; exact .inr (by simp)
end Go.Proofs.Ytfaponkpgcdgkaa

namespace Go.Proofs.Ytfaponkpgcdgkaa
open Go.RowKit Go.Maps

/-- Are two fields the same, numbers by their bits? -/
def sameF (f g : F5) : Bool := (f.n.toList == g.n.toList) && (decide (f.k = g.k) && ((f.t.toList == g.t.toList) && (decide (f.u = g.u) && decide (f.v = g.v))))
def F5.cv (f : F5) : Value := .agg #[.string f.n, .int .u8 (f.k : Nat), .string f.t, .float .f32 f.v, .int .u8 (f.u : Nat)]
set_option maxRecDepth 100000 in
set_option maxHeartbeats 4000000 in
theorem sameField_any (f g : F5) (w : World) : Calls Try.prog 53 #[f.cv, g.cv] w fun e w' => e = .returned (.bool (sameF f g)) ∧ Fr (fun _ => False) w w' := by
  obtain ⟨fn, fk, ft, fv, fu⟩ := f
  obtain ⟨gn, gk, gt, gv, gu⟩ := g
  have hfb := Try.fbitsO
  simp only [F5.cv, sameF]
  cases h1 : (fn.toList == gn.toList)
  · go_enter Try.func53, Try.ntmps53
    go_wp2_with fail
    go_quiet (fail)
    go_wp2_with fail
    go_ret
    exact ⟨rfl, ((box1 w _).alloc _).drewN _⟩
  · cases h2 : decide (fk = gk)
    · have eh2 : (((fk : Nat) : Int) == ((gk : Nat) : Int)) = false := by rw [nat_eq]; exact h2
      have gh2 : ¬ ((fk : Nat) : Int) = ((gk : Nat) : Int) := by have := of_decide_eq_false h2; omega
      go_enter Try.func53, Try.ntmps53
      go_wp2_with fail
      go_quiet (fail)
      go_wp2_with fail
      go_ret
      exact ⟨rfl, ((box1 w _).alloc _).drewN _⟩
    · obtain rfl : fk = gk := of_decide_eq_true h2
      clear h2
      cases h3 : (ft.toList == gt.toList)
      · go_enter Try.func53, Try.ntmps53
        go_wp2_with fail
        go_quiet (fail)
        go_wp2_with fail
        go_ret
        exact ⟨rfl, ((box1 w _).alloc _).drewN _⟩
      · cases h4 : decide (fu = gu)
        · have eh4 : (((fu : Nat) : Int) == ((gu : Nat) : Int)) = false := by rw [nat_eq]; exact h4
          have gh4 : ¬ ((fu : Nat) : Int) = ((gu : Nat) : Int) := by have := of_decide_eq_false h4; omega
          go_enter Try.func53, Try.ntmps53
          go_wp2_with fail
          go_quiet (fail)
          go_wp2_with fail
          go_ret
          exact ⟨rfl, ((box1 w _).alloc _).drewN _⟩
        · obtain rfl : fu = gu := of_decide_eq_true h4
          clear h4
          cases h5 : decide (fv = gv)
          · have eh5 : (((fv : Nat) : Int) == ((gv : Nat) : Int)) = false := by rw [nat_eq]; exact h5
            have gh5 : ¬ ((fv : Nat) : Int) = ((gv : Nat) : Int) := by have := of_decide_eq_false h5; omega
            go_enter Try.func53, Try.ntmps53
            go_wp2_with fail
            go_quiet (fail)
            go_wp2_with fail
            go_ret
            exact ⟨rfl, ((box1 w _).alloc _).drewN _⟩
          · obtain rfl : fv = gv := of_decide_eq_true h5
            clear h5
            go_enter Try.func53, Try.ntmps53
            go_wp2_with fail
            go_quiet (fail)
            go_wp2_with fail
            go_ret
            exact ⟨rfl, ((box1 w _).alloc _).drewN _⟩
end Go.Proofs.Ytfaponkpgcdgkaa

namespace Go.Proofs.Ytfaponkpgcdgkaa
open Go.RowKit Go.Maps

/-- Are two lists the same, element by element? -/
def sameL {α : Type} (e : α → α → Bool) : List α → List α → Bool
  | [], [] => true
  | f :: r, g :: s => e f g && sameL e r s
  | _, _ => false
theorem sameL_len {α : Type} {e : α → α → Bool} : ∀ {F G : List α}, sameL e F G = true → F.length = G.length
  | [], [], _ => rfl
  | f :: r, g :: s, h => by simp only [sameL, Bool.and_eq_true] at h; simp [sameL_len h.2]
  | [], g :: s, h => by cases h
  | f :: r, [], h => by cases h
theorem sameL_all {α : Type} {e : α → α → Bool} : ∀ {F G : List α}, F.length = G.length → (∀ (i : Nat) f g, F[i]? = some f → G[i]? = some g → e f g = true) → sameL e F G = true
  | [], [], _, _ => rfl
  | f :: r, g :: s, hl, h => by
    simp only [sameL, Bool.and_eq_true]
    exact ⟨h 0 f g rfl rfl, sameL_all (by simpa using hl) (fun i a b ha hb => h (i + 1) a b (by simpa using ha) (by simpa using hb))⟩
  | [], g :: s, hl, _ => by simp at hl
  | f :: r, [], hl, _ => by simp at hl
theorem sameL_at {α : Type} {e : α → α → Bool} : ∀ {F G : List α} {i : Nat} {f g : α}, F[i]? = some f → G[i]? = some g → e f g = false → sameL e F G = false
  | f :: r, g :: s, 0, a, b, ha, hb, h => by simp at ha hb; subst ha; subst hb; simp [sameL, h]
  | f :: r, g :: s, i + 1, a, b, ha, hb, h => by simp only [sameL]; rw [sameL_at (F := r) (G := s) (i := i) (by simpa using ha) (by simpa using hb) h, Bool.and_false]
  | [], G, i, a, b, ha, hb, h => by simp at ha
  | f :: r, [], i, a, b, ha, hb, h => by simp at hb
theorem sameL_ne {α : Type} {e : α → α → Bool} {F G : List α} (h : F.length ≠ G.length) : sameL e F G = false := by
  cases hb : sameL e F G with
  | false => rfl
  | true => exact absurd (sameL_len hb) h
set_option maxRecDepth 100000 in
set_option maxHeartbeats 4000000 in
/-- slices.EqualFunc of fields. -/
theorem eqFields_any (x y : Value) (F G : List F5) (w : World) (hx : Fds w x F) (hy : Fds w y G) (hl : F.length ≤ 1048576) :
    Calls Try.prog 52 #[x, y, .func (.func 53) #[] #[]] w fun e w' => e = .returned (.bool (sameL sameF F G)) ∧ Fr (fun _ => False) w w' := by
  obtain ⟨xo, xc, rfl⟩ := hx.form
  obtain ⟨yo, yc, rfl⟩ := hy.form
  have HX := hide (And.intro hx hy)
  clear hx hy
  by_cases hne : F.length = G.length
  · rw [← hne] at HX ⊢
    obtain ⟨N, hN⟩ : ∃ N, F.length = N := ⟨_, rfl⟩
    have HN := hide (And.intro hN hne)
    rw [hN] at HX ⊢
    rw [hN] at hl
    clear hN hne
    obtain ⟨b, hb⟩ : ∃ b, sameL sameF F G = b := ⟨_, rfl⟩
    have HB := hide hb
    rw [hb]
    clear hb
    go_enter Try.func52, Try.ntmps52
    go_wp2_with fail
    go_loopw [7, 8, 9, 17] (fun _ _ _ iv wr => ∃ j : Nat, j ≤ N ∧ iv = .int .i64 (j : Nat) ∧ (∀ (i : Nat) f g, i < j → F[i]? = some f → G[i]? = some g → sameF f g = true) ∧ Fr (fun _ => False) w wr) (fun _ _ _ iv _ => N - (intOf iv).toNat)
    case atStart => exact ⟨0, Nat.zero_le _, rfl, fun i _ _ h => by omega, Fr.refl _ _⟩
    case round =>
      obtain ⟨j, hj, rfl, hall, hfr⟩ := hrel
      rename World => wr
      have HA := hide (And.intro hall hfr)
      clear hall
      by_cases hlt : j < N
      · have hN := (unhide HN).1
        have hG := (unhide HN).2
        obtain ⟨f, hf⟩ : ∃ f, F[j]? = some f := ⟨_, List.getElem?_eq_getElem (by omega)⟩
        obtain ⟨g, hg⟩ : ∃ g, G[j]? = some g := ⟨_, List.getElem?_eq_getElem (by omega)⟩
        obtain ⟨g1, o1, rfl, c0, c1, c2, c3, c4⟩ := ((unhide HX).1.fr hfr).at_ j (by omega)
        obtain ⟨g2, o2, rfl, d0, d1, d2, d3, d4⟩ := ((unhide HX).2.fr hfr).at_ j (by omega)
        have e1 : F[j]'(by omega) = f := (List.getElem?_eq_some_iff.1 hf).2
        have e2 : G[j]'(by omega) = g := (List.getElem?_eq_some_iff.1 hg).2
        rw [e1] at c0 c1 c2 c3 c4
        rw [e2] at d0 d1 d2 d3 d4
        have hl1 : g1 < wr.heap.size := lt_of_cell c0
        have hl2 : g2 < wr.heap.size := lt_of_cell d0
        have hl2' : g2 < wr.heap.size + 1 := by omega
        have HS := hide (fun W => sameField_any f g W)
        have HE := hide (And.intro hf hg)
        obtain ⟨fn, fk, ft, fv, fu⟩ := f
        obtain ⟨gn, gk, gt, gv, gu⟩ := g
        simp only [F5.cv] at HS
        simp only at c0 c1 c2 c3 c4 d0 d1 d2 d3 d4
        clear e1 e2 hf hg hfr hN hG
        go_wp2_with fail
        refine ((unhide HS) _).mono ?_
        rintro e w2 ⟨rfl, hf2⟩
        have hfw : Fr (fun _ => False) w w2 := (unhide HA).2.trans0 (((box1 wr _).alloc _).trans0 hf2)
        have HF := hide hfw
        clear hf2 hfw HS c0 c1 c2 c3 c4 d0 d1 d2 d3 d4
        cases hs : sameF ⟨fn, fk, ft, fv, fu⟩ ⟨gn, gk, gt, gv, gu⟩
        · obtain rfl : b = false := (unhide HB).symm.trans (sameL_at (unhide HE).1 (unhide HE).2 hs)
          go_wp2_with fail
          go_ret
          exact ⟨rfl, unhide HF⟩
        · have HS := hide hs
          clear hs
          go_wp2_with fail
          go_roundw
          case rel =>
            refine ⟨j + 1, by omega, by go_num, fun i f g hi hf hg => ?_, unhide HF⟩
            by_cases e : i < j
            · exact (unhide HA).1 i f g e hf hg
            · obtain rfl : i = j := by omega
              rw [(unhide HE).1] at hf
              rw [(unhide HE).2] at hg
              cases hf
              cases hg
              exact unhide HS
          case measure => simp [intOf]; omega
      · obtain rfl : b = true := (unhide HB).symm.trans (sameL_all (unhide HN).2 (fun i f g hf hg => (unhide HA).1 i f g (by have h1 := (List.getElem?_eq_some_iff.1 hf).1; have h2 := (unhide HN).1; omega) hf hg))
        obtain rfl : j = N := by omega
        clear hfr hlt hj
        go_wp2_with fail
        go_ret
        exact ⟨rfl, (unhide HA).2⟩
  · rw [sameL_ne hne]
    have hne2 : ¬ (F.length : Int) = (G.length : Int) := by omega
    obtain ⟨N, hN⟩ : ∃ N, F.length = N := ⟨_, rfl⟩
    obtain ⟨M, hM⟩ : ∃ M, G.length = M := ⟨_, rfl⟩
    rw [hN, hM] at hne2 ⊢
    clear HX hN hM hne hl
    go_enter Try.func52, Try.ntmps52
    go_wp2_with fail
    go_ret
    exact ⟨rfl, Fr.refl _ _⟩
/-- Are two summaries the same? -/
def sameM (s t : SM) : Bool := decide (s.au = t.au) && (decide (s.ev = t.ev) && (decide (s.nf = t.nf) && (s.rd == t.rd)))
theorem Try.held_sm : Try.prog.stoodInHeld 81 = false := by kernel_rfl
theorem Try.fields_sm : Try.prog.underlying 81 = some (.struct (Try.prog.fieldsOf 81)) := by kernel_rfl
theorem neq_sm (s t : SM) (w : World) : (binOp .neq 81 (.agg #[.int .u32 (s.au : Nat), .int .u32 (s.ev : Nat), .int .u32 (s.nf : Nat), .bool s.rd]) (.agg #[.int .u32 (t.au : Nat), .int .u32 (t.ev : Nat), .int .u32 (t.nf : Nat), .bool t.rd])).run Try.prog w = .ok (.bool (!(sameM s t))) w := by
  rw [run_neq_struct, show (10000 : Nat) = 9999 + 1 from rfl, run_equalIn_agg _ 9999 _ _ _ Try.fields_sm Try.held_sm]
  unfold sameM
  by_cases h1 : s.au = t.au <;> by_cases h2 : s.ev = t.ev <;> by_cases h3 : s.nf = t.nf <;> cases h4 : s.rd <;> cases h5 : t.rd <;> simp [Program.fieldsOf, Try.underlying81, Op.eqFields, go_sem, h1, h2, h3, nat_eq]
set_option maxRecDepth 100000 in
set_option maxHeartbeats 4000000 in
/-- slices.Equal of summaries. -/
theorem eqSums_any (x y : Value) (F G : List SM) (w : World) (hx : Sms w x F) (hy : Sms w y G) (hl : F.length ≤ 1048576) :
    Calls Try.prog 54 #[x, y] w fun e w' => e = .returned (.bool (sameL sameM F G)) ∧ Fr (fun _ => False) w w' := by
  obtain ⟨xo, xc, rfl⟩ := hx.form
  obtain ⟨yo, yc, rfl⟩ := hy.form
  have HX := hide (And.intro hx hy)
  clear hx hy
  by_cases hne : F.length = G.length
  · rw [← hne] at HX ⊢
    obtain ⟨N, hN⟩ : ∃ N, F.length = N := ⟨_, rfl⟩
    have HN := hide (And.intro hN hne)
    rw [hN] at HX ⊢
    rw [hN] at hl
    clear hN hne
    obtain ⟨b, hb⟩ : ∃ b, sameL sameM F G = b := ⟨_, rfl⟩
    have HB := hide hb
    rw [hb]
    clear hb
    go_enter Try.func54, Try.ntmps54
    go_wp2_with fail
    go_loopw [5, 13] (fun _ iv wr => ∃ j : Nat, j ≤ N ∧ iv = .int .i64 (j : Nat) ∧ (∀ (i : Nat) f g, i < j → F[i]? = some f → G[i]? = some g → sameM f g = true) ∧ Fr (fun _ => False) w wr) (fun _ iv _ => N - (intOf iv).toNat)
    case atStart => exact ⟨0, Nat.zero_le _, rfl, fun i _ _ h => by omega, Fr.refl _ _⟩
    case round =>
      obtain ⟨j, hj, rfl, hall, hfr⟩ := hrel
      rename World => wr
      have HA := hide (And.intro hall hfr)
      clear hall
      by_cases hlt : j < N
      · have hN := (unhide HN).1
        have hG := (unhide HN).2
        obtain ⟨f, hf⟩ : ∃ f, F[j]? = some f := ⟨_, List.getElem?_eq_getElem (by omega)⟩
        obtain ⟨g, hg⟩ : ∃ g, G[j]? = some g := ⟨_, List.getElem?_eq_getElem (by omega)⟩
        obtain ⟨g1, o1, rfl, c0, c1, c2, c3⟩ := ((unhide HX).1.fr hfr).at_ j (by omega)
        obtain ⟨g2, o2, rfl, d0, d1, d2, d3⟩ := ((unhide HX).2.fr hfr).at_ j (by omega)
        have e1 : F[j]'(by omega) = f := (List.getElem?_eq_some_iff.1 hf).2
        have e2 : G[j]'(by omega) = g := (List.getElem?_eq_some_iff.1 hg).2
        rw [e1] at c0 c1 c2 c3
        rw [e2] at d0 d1 d2 d3
        have HE := hide (And.intro hf hg)
        have hjj : (0 : Int) ≤ (j : Int) := by omega
        clear e1 e2 hf hg hfr hN hG
        cases hs : sameM f g
        · have hq : ∀ w : World, (binOp .neq 81 (.agg #[.int .u32 (f.au : Nat), .int .u32 (f.ev : Nat), .int .u32 (f.nf : Nat), .bool f.rd]) (.agg #[.int .u32 (g.au : Nat), .int .u32 (g.ev : Nat), .int .u32 (g.nf : Nat), .bool g.rd])).run Try.prog w = .ok (.bool true) w := fun w => by rw [neq_sm, hs]; rfl
          obtain rfl : b = false := (unhide HB).symm.trans (sameL_at (unhide HE).1 (unhide HE).2 hs)
          clear hs
          go_wp2_with fail
          go_quiet (fail)
          go_wp2_with fail
          go_ret
          exact ⟨rfl, (unhide HA).2.drewN _⟩
        · have hq : ∀ w : World, (binOp .neq 81 (.agg #[.int .u32 (f.au : Nat), .int .u32 (f.ev : Nat), .int .u32 (f.nf : Nat), .bool f.rd]) (.agg #[.int .u32 (g.au : Nat), .int .u32 (g.ev : Nat), .int .u32 (g.nf : Nat), .bool g.rd])).run Try.prog w = .ok (.bool false) w := fun w => by rw [neq_sm, hs]; rfl
          have HS := hide hs
          clear hs
          go_wp2_with fail
          go_quiet (fail)
          go_wp2_with fail
          go_roundw
          case rel =>
            refine ⟨j + 1, by omega, by go_num, fun i f' g' hi hf hg => ?_, (unhide HA).2.drewN _⟩
            by_cases e : i < j
            · exact (unhide HA).1 i f' g' e hf hg
            · obtain rfl : i = j := by omega
              rw [(unhide HE).1] at hf
              rw [(unhide HE).2] at hg
              cases hf
              cases hg
              exact unhide HS
          case measure => simp [intOf]; omega
      · obtain rfl : b = true := (unhide HB).symm.trans (sameL_all (unhide HN).2 (fun i f g hf hg => (unhide HA).1 i f g (by have h1 := (List.getElem?_eq_some_iff.1 hf).1; have h2 := (unhide HN).1; omega) hf hg))
        obtain rfl : j = N := by omega
        clear hfr hlt hj
        go_wp2_with fail
        go_ret
        exact ⟨rfl, (unhide HA).2⟩
  · rw [sameL_ne hne]
    have hne2 : ¬ (F.length : Int) = (G.length : Int) := by omega
    obtain ⟨N, hN⟩ : ∃ N, F.length = N := ⟨_, rfl⟩
    obtain ⟨M, hM⟩ : ∃ M, G.length = M := ⟨_, rfl⟩
    rw [hN, hM] at hne2 ⊢
    clear HX hN hM hne hl
    go_enter Try.func54, Try.ntmps54
    go_wp2_with fail
    go_ret
    exact ⟨rfl, Fr.refl _ _⟩
end Go.Proofs.Ytfaponkpgcdgkaa

namespace Go.Proofs.Ytfaponkpgcdgkaa
open Go.RowKit Go.Maps

/-- Are two answers of one id the same? -/
def sameA (a b : AN) (F G : List F5) (H K : List SM) : Bool := decide (a.co = b.co) && (decide (a.rc = b.rc) && (decide (a.ve = b.ve) && (sameL sameF F G && sameL sameM H K)))
set_option maxRecDepth 100000 in
set_option maxHeartbeats 4000000 in
theorem sameAnswer_any (a b : AN) (F G : List F5) (H K : List SM) (w : World) (hF : Fds w a.fv F) (hG : Fds w b.fv G) (hH : Sms w a.hv H) (hK : Sms w b.hv K) (lF : F.length ≤ 1048576) (lH : H.length ≤ 1048576) :
    Calls Try.prog 43 #[.agg a.cs.toArray, .agg b.cs.toArray] w fun e w' => e = .returned (.bool (sameA a b F G H K)) ∧ Fr (fun _ => False) w w' := by
  obtain ⟨acl, anu, aco, arc, ave, afv, ahv⟩ := a
  obtain ⟨bcl, bnu, bco, brc, bve, bfv, bhv⟩ := b
  simp only at hF hG hH hK
  have HE := hide (fun W (hf : Fr (fun _ => False) w W) => eqFields_any afv bfv F G W (hF.fr hf) (hG.fr hf) lF)
  have HM := hide (fun W (hf : Fr (fun _ => False) w W) => eqSums_any ahv bhv H K W (hH.fr hf) (hK.fr hf) lH)
  clear hF hG hH hK lF lH
  simp only [AN.cs, sameA]
  obtain ⟨b1, hb1⟩ : ∃ b1, sameL sameF F G = b1 := ⟨_, rfl⟩
  obtain ⟨b2, hb2⟩ : ∃ b2, sameL sameM H K = b2 := ⟨_, rfl⟩
  rw [hb1] at HE ⊢
  rw [hb2] at HM ⊢
  clear hb1 hb2
  cases h1 : decide (aco = bco)
  · have eh1 : (((aco : Nat) : Int) == ((bco : Nat) : Int)) = false := by rw [nat_eq]; exact h1
    have gh1 : ¬ ((aco : Nat) : Int) = ((bco : Nat) : Int) := by have := of_decide_eq_false h1; omega
    go_enter Try.func43, Try.ntmps43
    go_wp2_with fail
    go_ret
    exact ⟨rfl, (box1 w _).alloc _⟩
  · obtain rfl : aco = bco := of_decide_eq_true h1
    clear h1
    cases h2 : decide (arc = brc)
    · have eh2 : (((arc : Nat) : Int) == ((brc : Nat) : Int)) = false := by rw [nat_eq]; exact h2
      have gh2 : ¬ ((arc : Nat) : Int) = ((brc : Nat) : Int) := by have := of_decide_eq_false h2; omega
      go_enter Try.func43, Try.ntmps43
      go_wp2_with fail
      go_ret
      exact ⟨rfl, (box1 w _).alloc _⟩
    · obtain rfl : arc = brc := of_decide_eq_true h2
      clear h2
      cases h3 : decide (ave = bve)
      · have eh3 : (((ave : Nat) : Int) == ((bve : Nat) : Int)) = false := by rw [nat_eq]; exact h3
        have gh3 : ¬ ((ave : Nat) : Int) = ((bve : Nat) : Int) := by have := of_decide_eq_false h3; omega
        go_enter Try.func43, Try.ntmps43
        go_wp2_with fail
        go_ret
        exact ⟨rfl, (box1 w _).alloc _⟩
      · obtain rfl : ave = bve := of_decide_eq_true h3
        clear h3
        cases b1
        · go_enter Try.func43, Try.ntmps43
          go_wp2_with fail
          refine ((unhide HE) _ ((box1 w _).alloc _)).mono ?_
          rintro e w2 ⟨rfl, hf2⟩
          go_wp2_with fail
          go_ret
          exact ⟨rfl, ((box1 w _).alloc _).trans0 hf2⟩
        · cases b2
          all_goals
            go_enter Try.func43, Try.ntmps43
            go_wp2_with fail
            refine ((unhide HE) _ ((box1 w _).alloc _)).mono ?_
            rintro e w2 ⟨rfl, hf2⟩
            obtain ⟨W1, hW1⟩ : ∃ W1, (w.alloc (.cells #[.int .u32 (acl : Nat), .int .u32 (anu : Nat), .int .u8 (aco : Nat), .int .u32 (arc : Nat), .int .u32 (ave : Nat), afv, ahv] 44)).alloc (.cells #[.int .u32 (bcl : Nat), .int .u32 (bnu : Nat), .int .u8 (aco : Nat), .int .u32 (arc : Nat), .int .u32 (ave : Nat), bfv, bhv] 44) = W1 := ⟨_, rfl⟩
            have hfw : Fr (fun _ => False) w W1 := by rw [← hW1]; exact (box1 w _).alloc _
            have k1 : W1.heap[w.heap.size]? = some (.cells #[.int .u32 (acl : Nat), .int .u32 (anu : Nat), .int .u8 (aco : Nat), .int .u32 (arc : Nat), .int .u32 (ave : Nat), afv, ahv] 44) := by rw [← hW1]; exact (Below.heap_alloc _ _ _ (by simp)).trans (heap_alloc_new w _)
            have k2 : W1.heap[w.heap.size + 1]? = some (.cells #[.int .u32 (bcl : Nat), .int .u32 (bnu : Nat), .int .u8 (aco : Nat), .int .u32 (arc : Nat), .int .u32 (ave : Nat), bfv, bhv] 44) := by
              rw [← hW1]
              have := heap_alloc_new (w.alloc (.cells #[.int .u32 (acl : Nat), .int .u32 (anu : Nat), .int .u8 (aco : Nat), .int .u32 (arc : Nat), .int .u32 (ave : Nat), afv, ahv] 44)) (.cells #[.int .u32 (bcl : Nat), .int .u32 (bnu : Nat), .int .u8 (aco : Nat), .int .u32 (arc : Nat), .int .u32 (ave : Nat), bfv, bhv] 44)
              rwa [World.size_alloc] at this
            rw [hW1] at hf2
            clear hW1
            have q1 : w2.cell? ⟨w.heap.size, 6, none⟩ = some ahv := cell_of_blk ((hf2.block _ (lt_of_block k1) (fun h => h)).trans k1) rfl
            have q2 : w2.cell? ⟨w.heap.size + 1, 6, none⟩ = some bhv := cell_of_blk ((hf2.block _ (lt_of_block k2) (fun h => h)).trans k2) rfl
            have HW2 := hide (hfw.trans0 hf2)
            clear hf2 hfw k1 k2
            go_wp2_with fail
            refine ((unhide HM) _ (unhide HW2)).mono ?_
            rintro e w3 ⟨rfl, hf3⟩
            go_wp2_with fail
            go_ret
            exact ⟨rfl, (unhide HW2).trans0 hf3⟩
end Go.Proofs.Ytfaponkpgcdgkaa

namespace Go.Proofs.Ytfaponkpgcdgkaa
open Go.RowKit Go.Maps

theorem wrapU0 (k : Nat) (h : k < 4294967296) : IntKind.u32.wrap (k : Int) = (k : Int) := by
  have e : (k : Int) % 4294967296 = (k : Int) := by omega
  simp [IntKind.wrap, IntKind.bits, IntKind.signed, e]
theorem Rd.at_ {w : World} {xo : Option Addr} {n c z : Nat} {cs : List Value} (h : Rd w (.slice xo n c) n z cs) (hp : 0 < cs.length) : ∃ g o, xo = some ⟨g, o, none⟩ ∧ ∀ j u, cs[j]? = some u → w.cell? ⟨g, o + j, none⟩ = some u := by
  obtain ⟨xo', c', e, _, _, h3⟩ := h.f
  cases e
  obtain ⟨g, o, rfl, _⟩ := h3 0 _ (List.getElem?_eq_getElem hp)
  exact ⟨g, o, rfl, fun j u hu => by
    obtain ⟨g', o', e, hc⟩ := h3 j u hu
    cases e
    exact hc⟩
theorem ids_cells {c : Nat} (ks : List Nat) {j k : Nat} (hk : ks[j]? = some k) : (icells (ks.map fun k => (c, k)))[j * 2]? = some (.int .u32 (c : Nat)) ∧ (icells (ks.map fun k => (c, k)))[j * 2 + 1]? = some (.int .u32 (k : Nat)) := by
  have hl := (List.getElem?_eq_some_iff.1 hk).1
  have hkk : (ks.map fun k => (c, k))[j]? = some (c, k) := by simp [hk]
  have e3 : (ks.map fun k => (c, k))[j]'(by simpa using hl) = (c, k) := (List.getElem?_eq_some_iff.1 hkk).2
  constructor
  · rw [icells_get _ _ (by simp; omega), show j * 2 / 2 = j by omega, show j * 2 % 2 = 0 by omega, getElem!_pos (ks.map fun k => (c, k)) j (by simpa using hl), e3]
    rfl
  · rw [icells_get _ _ (by simp; omega), show (j * 2 + 1) / 2 = j by omega, show (j * 2 + 1) % 2 = 1 by omega, getElem!_pos (ks.map fun k => (c, k)) j (by simpa using hl), e3]
    rfl
set_option maxRecDepth 100000 in
set_option maxHeartbeats 4000000 in
/-- ids, where they are these. -/
theorem ids_true (x y : Value) (c : Nat) (ks : List Nat) (w : World) (hx : Rd w x ks.length 2 (icells (ks.map fun k => (c, k)))) (hy : Rd w y ks.length 1 (ks.map fun k => .int .i64 (k : Nat))) (hl : ks.length ≤ 1048576) (hk : ∀ k ∈ ks, k < 4294967296) :
    Calls Try.prog 12 #[x, .int .u32 (c : Nat), y] w fun e w' => e = .returned (.bool true) ∧ Fr (fun _ => False) w w' := by
  obtain ⟨xo, xc, rfl, _⟩ := hx.f
  obtain ⟨yo, yc, rfl, _⟩ := hy.f
  have HX := hide (And.intro hx (And.intro hy hk))
  clear hx hy hk
  obtain ⟨N, hN⟩ : ∃ N, ks.length = N := ⟨_, rfl⟩
  have HN := hide hN
  rw [hN] at HX hl ⊢
  clear hN
  go_enter Try.func12, Try.ntmps12
  go_wp2_with fail
  go_loopw [7] (fun iv wr => ∃ j : Nat, j ≤ N ∧ iv = .int .i64 (j : Nat) ∧ Fr (fun _ => False) w wr) (fun iv _ => N - (intOf iv).toNat)
  case atStart => exact ⟨0, Nat.zero_le _, rfl, Fr.refl _ _⟩
  case round =>
    obtain ⟨j, hj, rfl, hfr⟩ := hrel
    rename World => wr
    have HF := hide hfr
    by_cases hlt : j < N
    · have hN := unhide HN
      obtain ⟨k, hk⟩ : ∃ k, ks[j]? = some k := ⟨_, List.getElem?_eq_getElem (by omega)⟩
      obtain ⟨g1, o1, rfl, hc1⟩ := ((unhide HX).1.fr0 hfr).at_ (by rw [icells_len, List.length_map]; omega)
      obtain ⟨g2, o2, rfl, hc2⟩ := ((unhide HX).2.1.fr0 hfr).at_ (by rw [List.length_map]; omega)
      have i1 := ids_cells (c := c) ks hk
      have c0 := hc1 _ _ i1.1
      have c1 : wr.cell? ⟨g1, o1 + j * 2 + 1, none⟩ = some (.int .u32 (k : Nat)) := by rw [Nat.add_assoc]; exact hc1 _ _ i1.2
      have d0 : wr.cell? ⟨g2, o2 + j, none⟩ = some (.int .i64 (k : Nat)) := hc2 j _ (by simp [hk])
      have hw := wrapU0 k ((unhide HX).2.2 k (List.mem_of_getElem? hk))
      clear i1 hc1 hc2 hk hfr hN
      go_wp2_with fail
      go_quiet (fail)
      go_wp2_with fail
      go_roundw
      case rel => exact ⟨j + 1, by omega, by go_num, (unhide HF).drewN _⟩
      case measure => simp [intOf]; omega
    · obtain rfl : j = N := by omega
      clear hfr hlt hj
      go_wp2_with fail
      go_ret
      exact ⟨rfl, unhide HF⟩
end Go.Proofs.Ytfaponkpgcdgkaa

namespace Go.Proofs.Ytfaponkpgcdgkaa
open Go.RowKit Go.Maps

theorem SS.bYes {w : World} {d c : Nat} {cs : List SC} {dn : List Nat} {T : Nat → Prop} (h : SS w d c cs dn T) (i : Nat) (q : SC) (hq : cs[i]? = some q) (hd : q.d = none) :
    Calls Try.prog 15 #[.pointer (some ⟨d, 0, none⟩), .agg #[.int .u32 (c : Nat), .int .u32 ((i + 1 : Nat) : Int)]] w fun e w' => e = .returned (.tuple #[.int .i64 q.la, .int .i64 (q.n : Nat)]) ∧ Fr (fun _ => False) w w' := by
  obtain ⟨mw, ma, dv, h⟩ := h
  exact sbusy_yes d mw ma c cs dn dv T w h i q hq hd
theorem SS.bNo {w : World} {d c : Nat} {cs : List SC} {dn : List Nat} {T : Nat → Prop} (h : SS w d c cs dn T) (cl k : Nat) (hcl : cl < 4294967296) (hk : k < 4294967296) (hn : cl = c → fW cs k = none) :
    Calls Try.prog 15 #[.pointer (some ⟨d, 0, none⟩), .agg #[.int .u32 (cl : Nat), .int .u32 (k : Nat)]] w fun e w' => e = .returned (.tuple #[.int .i64 0, .int .i64 0]) ∧ Fr (fun _ => False) w w' := by
  obtain ⟨mw, ma, dv, h⟩ := h
  exact sbusy_no d mw ma c cs dn dv T w h cl k hcl hk hn
theorem SS.aYes {w : World} {d c : Nat} {cs : List SC} {dn : List Nat} {T : Nat → Prop} (h : SS w d c cs dn T) (i : Nat) (q : SC) (x : AD) (hq : cs[i]? = some q) (hd : q.d = some x) :
    Calls Try.prog 19 #[.pointer (some ⟨d, 0, none⟩), .agg #[.int .u32 (c : Nat), .int .u32 ((i + 1 : Nat) : Int)]] w fun e w' => ∃ v u, e = .returned (.tuple #[AN.v { x.a with fv := v, hv := u }, .bool true]) ∧ OwF w' w.heap.size v x.F ∧ OwS w' w.heap.size u x.H ∧ Fr (fun _ => False) w w' := by
  obtain ⟨mw, ma, dv, h⟩ := h
  exact sanswer_yes d mw ma c cs dn dv T w h i q x hq hd
theorem SS.aNo {w : World} {d c : Nat} {cs : List SC} {dn : List Nat} {T : Nat → Prop} (h : SS w d c cs dn T) (cl k : Nat) (hcl : cl < 4294967296) (hk : k < 4294967296) (hn : cl = c → fA cs k = none) :
    Calls Try.prog 19 #[.pointer (some ⟨d, 0, none⟩), .agg #[.int .u32 (cl : Nat), .int .u32 (k : Nat)]] w fun e w' => ∃ v u, e = .returned (.tuple #[AN.v ⟨0, 0, 0, 0, 0, v, u⟩, .bool false]) ∧ OwF w' w.heap.size v [] ∧ OwS w' w.heap.size u [] ∧ Fr (fun _ => False) w w' := by
  obtain ⟨mw, ma, dv, h⟩ := h
  exact sanswer_no d mw ma c cs dn dv T w h cl k hcl hk hn
/-- What is answered, as sameAnswer reads it. -/
theorem SS.fdsX {w : World} {d c : Nat} {cs : List SC} {dn : List Nat} {T : Nat → Prop} (h : SS w d c cs dn T) {q : SC} {x : AD} (hq : q ∈ cs) (hd : q.d = some x) : Fds w x.a.fv x.F ∧ Sms w x.a.hv x.H ∧ x.F.length ≤ 1048576 ∧ x.H.length ≤ 1048576 := by
  obtain ⟨mw, ma, dv, h⟩ := h
  have h2 := (h.qs q hq).an x hd
  exact ⟨rd_fds (own_rd h2.1.o (fcells_one _)), OwS.sms (base := 0) h2.2.o, h2.1.l, h2.2.l⟩
/-- SessionKnown, between two calls: the session, and the boxes of its two ids. -/
structure KW (w W : World) (d A B : Nat) (cs : List SC) (dn : List Nat) (T : Nat → Prop) : Prop where
  s : SS W d 3 cs dn T
  a : W.heap[A]? = some (.cells #[.int .u32 3, .int .u32 1] 29)
  b : W.heap[B]? = some (.cells #[.int .u32 3, .int .u32 2] 29)
  t : ∀ g, T g → w.heap.size ≤ g ∧ g ≠ A ∧ g ≠ B
  f : Fr (fun _ => False) w W
theorem KW.fr0 {w W W' : World} {d A B : Nat} {cs : List SC} {dn : List Nat} {T : Nat → Prop} (h : KW w W d A B cs dn T) (hf : Fr (fun _ => False) W W') : KW w W' d A B cs dn T :=
  ⟨h.s.fr0 hf, (hf.block A (lt_of_block h.a) (fun h => h)).trans h.a, (hf.block B (lt_of_block h.b) (fun h => h)).trans h.b, h.t, h.f.trans0 hf⟩
theorem KW.same {w W W' : World} {d A B : Nat} {cs cs' : List SC} {dn dn' : List Nat} {T : Nat → Prop} (h : KW w W d A B cs dn T) (hs : SS W' d 3 cs' dn' T) (hf : Fr T W W') : KW w W' d A B cs' dn' T :=
  ⟨hs, (hf.block A (lt_of_block h.a) (fun e => (h.t _ e).2.1 rfl)).trans h.a, (hf.block B (lt_of_block h.b) (fun e => (h.t _ e).2.2 rfl)).trans h.b, h.t, h.f.trans hf (fun g hg e => by have := (h.t g e).1; omega)⟩
theorem KW.more {w W W' : World} {d A B : Nat} {cs cs' : List SC} {dn dn' : List Nat} {T : Nat → Prop} (h : KW w W d A B cs dn T) (hs : SS W' d 3 cs' dn' (Tn T W W')) (hf : Fr T W W') : KW w W' d A B cs' dn' (Tn T W W') :=
  ⟨hs, (hf.block A (lt_of_block h.a) (fun e => (h.t _ e).2.1 rfl)).trans h.a, (hf.block B (lt_of_block h.b) (fun e => (h.t _ e).2.2 rfl)).trans h.b, fun g hg => by
    rcases hg with hg | hg
    · exact h.t g hg
    · have h1 := h.f.size
      have h2 := lt_of_block h.a
      have h3 := lt_of_block h.b
      have h4 := hg.1
      exact ⟨by omega, by omega, by omega⟩, h.f.trans hf (fun g hg e => by have := (h.t g e).1; omega)⟩
theorem KW.cells {w W : World} {d A B : Nat} {cs : List SC} {dn : List Nat} {T : Nat → Prop} (h : KW w W d A B cs dn T) : W.cell? ⟨A, 0, none⟩ = some (.int .u32 3) ∧ W.cell? ⟨A, 1, none⟩ = some (.int .u32 1) ∧ W.cell? ⟨B, 0, none⟩ = some (.int .u32 3) ∧ W.cell? ⟨B, 1, none⟩ = some (.int .u32 2) :=
  ⟨cell_of_blk h.a rfl, cell_of_blk h.a rfl, cell_of_blk h.b rfl, cell_of_blk h.b rfl⟩
theorem neq_32 (w : World) : (binOp .neq 29 (.agg #[.int .u32 3, .int .u32 2]) (.agg #[.int .u32 3, .int .u32 2])).run Try.prog w = .ok (.bool false) w := neq_id 3 2 3 2 w
theorem neq_31 (w : World) : (binOp .neq 29 (.agg #[.int .u32 3, .int .u32 1]) (.agg #[.int .u32 3, .int .u32 1])).run Try.prog w = .ok (.bool false) w := neq_id 3 1 3 1 w
/-- A refusal told. -/
def busM : List Value := .int .u8 4 :: (zR ++ ([.int .u32 3, .int .u32 2] ++ (zA ++ (.int .u8 5 :: (zE ++ [.int .u32 0])))))
theorem busM_x : MsX busM 4 3 2 5 ⟨0, 0, 0, 0, 0, .slice none 0 0, .slice none 0 0⟩ := ⟨rfl, rfl, rfl, fun j v hj => by
  have h7 : j < 7 := (List.getElem?_eq_some_iff.1 hj).1
  match j, h7 with
  | 0, _ => exact hj
  | 1, _ => exact hj
  | 2, _ => exact hj
  | 3, _ => exact hj
  | 4, _ => exact hj
  | 5, _ => exact hj
  | 6, _ => exact hj, rfl⟩
theorem busM_one : ∀ v ∈ busM, v.oneCell' = true := List.all_eq_true.1 (show List.all busM (fun v => v.oneCell') = true from rfl)
def havM : List Value := .int .u8 6 :: (zR ++ ([.int .u32 0, .int .u32 0] ++ (zA ++ (.int .u8 0 :: (zE ++ [.int .u32 0])))))
theorem havM_x : MsX havM 6 0 0 0 ⟨0, 0, 0, 0, 0, .slice none 0 0, .slice none 0 0⟩ := ⟨rfl, rfl, rfl, fun j v hj => by
  have h7 : j < 7 := (List.getElem?_eq_some_iff.1 hj).1
  match j, h7 with
  | 0, _ => exact hj
  | 1, _ => exact hj
  | 2, _ => exact hj
  | 3, _ => exact hj
  | 4, _ => exact hj
  | 5, _ => exact hj
  | 6, _ => exact hj, rfl⟩
/-- A row just built may be read. -/
theorem rd_new {W W' : World} {n z t : Nat} {xs : List Value} (hb : W'.heap[W.heap.size]? = some (.cells xs.toArray t)) (hl : xs.length = n * z) (h1 : ∀ u ∈ xs, u.oneCell' = true) : Rd W' (.slice (some ⟨W.heap.size, 0, none⟩) n n) n z xs :=
  ⟨⟨_, _, rfl, Nat.le_refl _, fun e => (by cases e), fun j u hu => ⟨W.heap.size, 0, rfl, cell_of_blk hb (by simpa using hu)⟩⟩, hl, h1⟩
theorem rd_at {W' : World} {b n z t : Nat} {xs : List Value} (hb : W'.heap[b]? = some (.cells xs.toArray t)) (hl : xs.length = n * z) (h1 : ∀ u ∈ xs, u.oneCell' = true) : Rd W' (.slice (some ⟨b, 0, none⟩) n n) n z xs :=
  ⟨⟨_, _, rfl, Nat.le_refl _, fun e => (by cases e), fun j u hu => ⟨b, 0, rfl, cell_of_blk hb (by simpa using hu)⟩⟩, hl, h1⟩
end Go.Proofs.Ytfaponkpgcdgkaa

namespace Go.Proofs.Ytfaponkpgcdgkaa
open Go.RowKit Go.Maps

theorem own_set {w : World} {base e size n g cap : Nat} {xs : List Value} {v : Value} (h : w.ownsRow base e size v n xs) (hv : v = .slice (some ⟨g, 0, none⟩) n cap) (j : Nat) (u : Value) : (w.setCell ⟨g, j, none⟩ u).ownsRow base e size v n (xs.set j u) := by
  subst hv
  exact (h.stored j u).1
/-- Out, where one request waits. -/
theorem SS.out1 {w : World} {d c : Nat} {q : SC} {T : Nat → Prop} (h : SS w d c [q] [] T) (hd : q.d = none) :
    Calls Try.prog 13 #[.pointer (some ⟨d, 0, none⟩)] w fun e w' => ∃ gh ch tv v, e = .returned (.tuple #[.slice (some ⟨gh, 0, none⟩) 1 ch, tv]) ∧ (1 ≤ ch ∧ w.heap.size ≤ gh ∧ gh < w'.heap.size) ∧ w'.cell? ⟨gh, 9, none⟩ = some v ∧ OwF w' w.heap.size v q.F ∧ v.ownBlock ≠ some gh ∧ Fr (fun _ => False) w w' := by
  refine h.out.mono ?_
  rintro e w5 ⟨hv, tv, rfl, W2, R, hfo, hO⟩
  have hwl : wl [q] = [1] := by simp [wl, hd]
  rw [hwl] at hO
  have hR1 : R.length = 1 := hO.rl
  obtain ⟨r, rfl⟩ : ∃ r, R = [r] := by
    match R, hR1 with
    | [r], _ => exact ⟨r, rfl⟩
  obtain ⟨k, q', hk, hq, v', hr, hF⟩ := hO.rr 0 r rfl
  rw [hwl] at hk
  obtain rfl : 1 = k := by simpa using hk
  obtain rfl : q = q' := by simpa using hq
  subst hr
  obtain ⟨gh, ch, rfl, hgb, hgc⟩ := own_one_form hO.h (by simp)
  have hc9 : w5.cell? ⟨gh, 9, none⟩ = some v' := hgc 9 _ rfl
  have hcap : 1 ≤ ch := by
    rcases hO.h.2 with ⟨e, _⟩ | ⟨g', cap', cur, e, _, _, h3, _⟩
    · cases e
    · simp only [Value.slice.injEq] at e
      rw [e.2.2]
      exact h3
  refine ⟨gh, ch, tv, v', rfl, ⟨hcap, Nat.le_trans hfo.size hgb, lt_of_cell hc9⟩, hc9, ownsRow_base hF hfo.size, fun e => ?_, hfo.trans0 hO.fr⟩
  obtain ⟨c1, h1⟩ := own_blk hF e
  obtain ⟨c2, h2⟩ := own_blk hO.h (g := gh) rfl
  rw [h1] at h2
  simp only [Option.some.injEq, Obj.cells.injEq] at h2
  exact absurd h2.2.1 (by decide)
def fN (s : ByteArray) : F5 := ⟨s, 0, ⟨#[]⟩, 0, 0⟩
def sN (i : Nat) : SM := ⟨i, 0, 0, false⟩
/-- The message of SessionKept. -/
def mK (fv hv : Value) : List Value := .int .u8 3 :: (zR ++ ([.int .u32 0, .int .u32 0] ++ ((⟨2, 1, 0, 1, 1, fv, hv⟩ : AN).cs ++ (.int .u8 0 :: (zE ++ [.int .u32 0])))))
theorem mK_x (fv hv : Value) : MsX (mK fv hv) 3 0 0 0 ⟨2, 1, 0, 1, 1, fv, hv⟩ := ⟨rfl, rfl, rfl, fun j v hj => by
  have h7 : j < 7 := (List.getElem?_eq_some_iff.1 hj).1
  match j, h7 with
  | 0, _ => exact hj
  | 1, _ => exact hj
  | 2, _ => exact hj
  | 3, _ => exact hj
  | 4, _ => exact hj
  | 5, _ => exact hj
  | 6, _ => exact hj, rfl⟩
theorem mK_one (fv hv : Value) (h1 : fv.oneCell' = true) (h2 : hv.oneCell' = true) : ∀ v ∈ mK fv hv, v.oneCell' = true := List.all_eq_true.1 (show List.all (mK fv hv) (fun v => v.oneCell') = true by simp [mK, AN.cs, zR, zE, Value.oneCell']; exact ⟨h1, h2⟩)
/-- SessionKept, ahead of Take. -/
structure KB (w W : World) (d M gh gf cf : Nat) (q : SC) (T : Nat → Prop) (F : List F5) (H : List SM) (S : List ByteArray) (fv hv wv : Value) : Prop where
  s : SS W d 2 [q] [] T
  hm : W.cell? ⟨gh, 9, none⟩ = some (.slice (some ⟨gf, 0, none⟩) 2 cf)
  hg : W.cell? ⟨gf, 0, none⟩ = some (.string ⟨#[97]⟩)
  m : W.heap[M]? = some (.cells (mK fv hv).toArray 49)
  f : OwF W (M + 1) fv F
  h : OwS W (M + 1) hv H
  t : OwT W (M + 1) wv S
  ap : ∀ g, (fv.ownBlock = some g → hv.ownBlock ≠ some g ∧ wv.ownBlock ≠ some g) ∧ (hv.ownBlock = some g → wv.ownBlock ≠ some g)
  lt : w.heap.size ≤ M ∧ gh < M ∧ gf < M ∧ ∀ g, T g → w.heap.size ≤ g ∧ g < M
  fr : Fr (fun _ => False) w W
theorem own_ge {w : World} {base e z n g : Nat} {v : Value} {xs : List Value} (h : w.ownsRow base e z v n xs) (hg : v.ownBlock = some g) : base ≤ g := (h.lt g hg).1
theorem KB.fr0 {w W W' : World} {d M gh gf cf : Nat} {q : SC} {T : Nat → Prop} {F : List F5} {H : List SM} {S : List ByteArray} {fv hv wv : Value} (h : KB w W d M gh gf cf q T F H S fv hv wv) (hf : Fr (fun _ => False) W W') : KB w W' d M gh gf cf q T F H S fv hv wv :=
  ⟨h.s.fr0 hf, (hf.cell (p := ⟨gh, 9, none⟩) (lt_of_cell h.hm) (fun h => h)).trans h.hm, (hf.cell (p := ⟨gf, 0, none⟩) (lt_of_cell h.hg) (fun h => h)).trans h.hg, (hf.block M (lt_of_block h.m) (fun h => h)).trans h.m, h.f.fr hf (fun _ _ h => h), ownsRow_of_block h.h (fun g hg => hf.block g (h.h.lt g hg).2 (fun h => h)), ownsRow_of_block h.t (fun g hg => hf.block g (h.t.lt g hg).2 (fun h => h)), h.ap, h.lt, h.fr.trans0 hf⟩
/-- One field more. -/
theorem KB.fld {w W W' : World} {d M gh gf cf : Nat} {q : SC} {T : Nat → Prop} {F F' : List F5} {H : List SM} {S : List ByteArray} {fv fv' hv wv : Value} (h : KB w W d M gh gf cf q T F H S fv hv wv) (h2 : OwF W' (M + 1) fv' F') (hf : Fr (fun g => fv.ownBlock = some g) W W') (hb : ∀ g, fv'.ownBlock = some g → fv.ownBlock = some g ∨ W.heap.size ≤ g) : KB w (W'.setCell ⟨M, 18, none⟩ fv') d M gh gf cf q T F' H S fv' hv wv := by
  have hM := lt_of_block h.m
  have nM : fv.ownBlock ≠ some M := fun e => by have := own_ge h.f e; omega
  have hfs : Fr (fun g => fv.ownBlock = some g ∨ g = M) W (W'.setCell ⟨M, 18, none⟩ fv') := (hf.mono (fun _ _ e => .inl e)).setCell (p := ⟨M, 18, none⟩) (.inl (.inr rfl)) _
  have hlo : ∀ g, g < M → ¬ (fv.ownBlock = some g ∨ g = M) := fun g hg e => by
    rcases e with e | e
    · have := own_ge h.f e; omega
    · omega
  have hf2 : Fr (fun g => g = M) W' (W'.setCell ⟨M, 18, none⟩ fv') := (Fr.refl (fun g => g = M) _).setCell (p := ⟨M, 18, none⟩) (.inl rfl) _
  refine ⟨h.s.fr hfs (fun g hg => hlo g (h.lt.2.2.2 g hg).2), (hfs.cell (p := ⟨gh, 9, none⟩) (lt_of_cell h.hm) (hlo gh h.lt.2.1)).trans h.hm, (hfs.cell (p := ⟨gf, 0, none⟩) (lt_of_cell h.hg) (hlo gf h.lt.2.2.1)).trans h.hg, ?_, ?_, ?_, ?_, fun g => ⟨fun e => ?_, (h.ap g).2⟩, h.lt, ?_⟩
  · rw [blkset ((hf.block M hM nM).trans h.m)]
    simp [mK, AN.cs, zR]
  · exact h2.fr hf2 (fun g hg e => by have := own_ge h2 hg; omega)
  · refine ownsRow_of_block h.h (fun g hg => hfs.block g (h.h.lt g hg).2 (fun e => ?_))
    rcases e with e | e
    · exact ((h.ap g).1 e).1 hg
    · have := own_ge h.h hg; omega
  · refine ownsRow_of_block h.t (fun g hg => hfs.block g (h.t.lt g hg).2 (fun e => ?_))
    rcases e with e | e
    · exact ((h.ap g).1 e).2 hg
    · have := own_ge h.t hg; omega
  · rcases hb g e with e | e
    · exact (h.ap g).1 e
    · exact ⟨fun e2 => by have := (h.h.lt g e2).2; omega, fun e2 => by have := (h.t.lt g e2).2; omega⟩
  · exact h.fr.trans hfs (fun g hg e => hlo g (by have := h.lt.1; omega) e)
/-- One summary more. -/
theorem KB.sum {w W W' : World} {d M gh gf cf : Nat} {q : SC} {T : Nat → Prop} {F : List F5} {H H' : List SM} {S : List ByteArray} {fv hv hv' wv : Value} (h : KB w W d M gh gf cf q T F H S fv hv wv) (h2 : OwS W' (M + 1) hv' H') (hf : Fr (fun g => hv.ownBlock = some g) W W') (hb : ∀ g, hv'.ownBlock = some g → hv.ownBlock = some g ∨ W.heap.size ≤ g) : KB w (W'.setCell ⟨M, 19, none⟩ hv') d M gh gf cf q T F H' S fv hv' wv := by
  have hM := lt_of_block h.m
  have nM : hv.ownBlock ≠ some M := fun e => by have := own_ge h.h e; omega
  have hfs : Fr (fun g => hv.ownBlock = some g ∨ g = M) W (W'.setCell ⟨M, 19, none⟩ hv') := (hf.mono (fun _ _ e => .inl e)).setCell (p := ⟨M, 19, none⟩) (.inl (.inr rfl)) _
  have hlo : ∀ g, g < M → ¬ (hv.ownBlock = some g ∨ g = M) := fun g hg e => by
    rcases e with e | e
    · have := own_ge h.h e; omega
    · omega
  have hf2 : Fr (fun g => g = M) W' (W'.setCell ⟨M, 19, none⟩ hv') := (Fr.refl (fun g => g = M) _).setCell (p := ⟨M, 19, none⟩) (.inl rfl) _
  refine ⟨h.s.fr hfs (fun g hg => hlo g (h.lt.2.2.2 g hg).2), (hfs.cell (p := ⟨gh, 9, none⟩) (lt_of_cell h.hm) (hlo gh h.lt.2.1)).trans h.hm, (hfs.cell (p := ⟨gf, 0, none⟩) (lt_of_cell h.hg) (hlo gf h.lt.2.2.1)).trans h.hg, ?_, ?_, ?_, ?_, fun g => ⟨fun e => ?_, fun e => ?_⟩, h.lt, ?_⟩
  · rw [blkset ((hf.block M hM nM).trans h.m)]
    simp [mK, AN.cs, zR]
  · refine h.f.fr hfs (fun g hg e => ?_)
    rcases e with e | e
    · exact ((h.ap g).1 hg).1 e
    · have := own_ge h.f hg; omega
  · exact ownsRow_of_block h2 (fun g hg => hf2.block g (h2.lt g hg).2 (fun e => by have := own_ge h2 hg; omega))
  · refine ownsRow_of_block h.t (fun g hg => hfs.block g (h.t.lt g hg).2 (fun e => ?_))
    rcases e with e | e
    · exact (h.ap g).2 e hg
    · have := own_ge h.t hg; omega
  · refine ⟨fun e2 => ?_, ((h.ap g).1 e).2⟩
    rcases hb g e2 with e2 | e2
    · exact ((h.ap g).1 e).1 e2
    · have := (h.f.lt g e).2; omega
  · rcases hb g e with e | e
    · exact (h.ap g).2 e
    · exact fun e2 => by have := (h.t.lt g e2).2; omega
  · exact h.fr.trans hfs (fun g hg e => hlo g (by have := h.lt.1; omega) e)
/-- One name more. -/
theorem KB.txt {w W W' : World} {d M gh gf cf : Nat} {q : SC} {T : Nat → Prop} {F : List F5} {H : List SM} {S S' : List ByteArray} {fv hv wv wv' : Value} (h : KB w W d M gh gf cf q T F H S fv hv wv) (h2 : OwT W' (M + 1) wv' S') (hfs : Fr (fun g => wv.ownBlock = some g) W W') (hb : ∀ g, wv'.ownBlock = some g → wv.ownBlock = some g ∨ W.heap.size ≤ g) : KB w W' d M gh gf cf q T F H S' fv hv wv' := by
  have hM := lt_of_block h.m
  have hlo : ∀ g, g ≤ M → ¬ wv.ownBlock = some g := fun g hg e => by have := own_ge h.t e; omega
  refine ⟨h.s.fr hfs (fun g hg => hlo g (by have := (h.lt.2.2.2 g hg).2; omega)), (hfs.cell (p := ⟨gh, 9, none⟩) (lt_of_cell h.hm) (hlo gh (by have := h.lt.2.1; omega))).trans h.hm, (hfs.cell (p := ⟨gf, 0, none⟩) (lt_of_cell h.hg) (hlo gf (by have := h.lt.2.2.1; omega))).trans h.hg, (hfs.block M hM (hlo M (Nat.le_refl _))).trans h.m, ?_, ?_, h2, fun g => ⟨fun e => ?_, fun e => ?_⟩, h.lt, ?_⟩
  · exact h.f.fr hfs (fun g hg e => ((h.ap g).1 hg).2 e)
  · exact ownsRow_of_block h.h (fun g hg => hfs.block g (h.h.lt g hg).2 (fun e => (h.ap g).2 hg e))
  · refine ⟨((h.ap g).1 e).1, fun e2 => ?_⟩
    rcases hb g e2 with e2 | e2
    · exact ((h.ap g).1 e).2 e2
    · have := (h.f.lt g e).2; omega
  · intro e2
    rcases hb g e2 with e2 | e2
    · exact (h.ap g).2 e e2
    · have := (h.h.lt g e).2; omega
  · exact h.fr.trans hfs (fun g hg e => hlo g (by have := h.lt.1; omega) e)
end Go.Proofs.Ytfaponkpgcdgkaa

namespace Go.Proofs.Ytfaponkpgcdgkaa
open Go.RowKit Go.Maps

/-- A load of a struct that is guarded, where it is wanted. -/
theorem wpList_load_midG {P : Program} {ops : Array Oper} {rest : List Oper} {op : Oper} {a : Act} {w : World} {Q : Exit → Act → World → Prop} (hw : Region.wanted op (yielded ops a.tmps) = true) (ty : TypeId) (x : Operand) (ho : op.op = .load ty x)
    (b o : Nat) (hx : a.eval x = .pointer (some ⟨b, o, none⟩)) (cs : List Value) (d : TypeDesc) (hc : w.rangeAt b o cs)
    (hu : P.underlying ty = some d) (hd : d.isRow = true) (hi : (P.info? ty).map (·.size) = some cs.length)
    (h : wpList P ops Q rest (a.put op.dst (.agg cs.toArray)) w) : wpList P ops Q (op :: rest) a w :=
  wpList_step fun K hK => by rw [if_pos hw]; exact wp_load_mid ty x ho b o hx cs d hc hu hd hi (hK _ _ h)
/-- append(l, f), whatever is in l. -/
theorem app_fldR (w : World) (base : Nat) (v : Value) (n : Nat) (xs : List Value) (f : F5) (h : w.ownsRow base 79 5 v n xs) (hb : base ≤ w.heap.size) (hl : n ≤ 1000000000) :
    ∃ ao cap w', (Builtin.append_ #[32, 32] 32 #[v, .slice (some ⟨w.heap.size, 0, none⟩) 1 1]).run Try.prog (w.alloc (.cells #[.string f.n, .int .u8 (f.k : Nat), .string f.t, .float .f32 f.v, .int .u8 (f.u : Nat)] 79)) = .ok (.slice ao (n + 1) cap) w' ∧ (∃ ys, w'.ownsRow base 79 5 (.slice ao (n + 1) cap) (n + 1) ys) ∧ Fr (fun g => v.ownBlock = some g) w w' ∧
      ∀ g, (Value.slice ao (n + 1) cap).ownBlock = some g → v.ownBlock = some g ∨ w.heap.size ≤ g := by
  obtain ⟨i0, hi, hz0, hz1, hz2⟩ := info_parts Try.infoFl
  have hb' := ownsRow_of_block (w' := w.alloc (.cells #[.string f.n, .int .u8 (f.k : Nat), .string f.t, .float .f32 f.v, .int .u8 (f.u : Nat)] 79)) h (fun g hg => Below.heap_alloc _ _ _ (h.lt g hg).2)
  obtain ⟨v', w', hr, h2, h3, _, h5⟩ := run_append_own_at (P := Try.prog) (w := w.alloc (.cells #[.string f.n, .int .u8 (f.k : Nat), .string f.t, .float .f32 f.v, .int .u8 (f.u : Nat)] 79)) base 32 32 79 i0 (.agg #[.string ⟨#[]⟩, .int .u8 0, .string ⟨#[]⟩, .float .f32 0, .int .u8 0]) 5 48 Try.underlying32 hi hz0 hz1 hz2 rfl (by decide) v n xs hb' ⟨w.heap.size, 0, none⟩ 1 1 [.string f.n, .int .u8 (f.k : Nat), .string f.t, .float .f32 f.v, .int .u8 (f.u : Nat)] rfl (fun j u hu => by
    rw [addr_add, World.cell?_alloc_at _ _ _ _ rfl]; simpa using hu) (fun u hu => by simp at hu; rcases hu with rfl | rfl | rfl | rfl | rfl <;> rfl) (by simp only [maxLen]; omega) (by omega) (by simp; omega)
  obtain ⟨ao, cap, rfl⟩ := own_formX h2
  refine ⟨ao, cap, w', hr, ⟨_, h2⟩, ((box1 w _).mono (fun _ _ h => h.elim)).grown h3 (fun g hg => .inl hg), fun g hg => ?_⟩
  rcases h5 with e | e
  · rw [e] at hg; exact .inl hg
  · rw [e] at hg; cases hg; exact .inr (by simp)
/-- append(l, s), whatever is in l. -/
theorem app_sumR (w : World) (base : Nat) (v : Value) (n : Nat) (xs : List Value) (s : SM) (h : w.ownsRow base 81 4 v n xs) (hb : base ≤ w.heap.size) (hl : n ≤ 1000000000) :
    ∃ ao cap w', (Builtin.append_ #[42, 42] 42 #[v, .slice (some ⟨w.heap.size, 0, none⟩) 1 1]).run Try.prog (w.alloc (.cells #[.int .u32 (s.au : Nat), .int .u32 (s.ev : Nat), .int .u32 (s.nf : Nat), .bool s.rd] 81)) = .ok (.slice ao (n + 1) cap) w' ∧ (∃ ys, w'.ownsRow base 81 4 (.slice ao (n + 1) cap) (n + 1) ys) ∧ Fr (fun g => v.ownBlock = some g) w w' ∧
      ∀ g, (Value.slice ao (n + 1) cap).ownBlock = some g → v.ownBlock = some g ∨ w.heap.size ≤ g := by
  obtain ⟨i0, hi, hz0, hz1, hz2⟩ := info_parts Try.infoSm
  have hb' := ownsRow_of_block (w' := w.alloc (.cells #[.int .u32 (s.au : Nat), .int .u32 (s.ev : Nat), .int .u32 (s.nf : Nat), .bool s.rd] 81)) h (fun g hg => Below.heap_alloc _ _ _ (h.lt g hg).2)
  obtain ⟨v', w', hr, h2, h3, _, h5⟩ := run_append_own_at (P := Try.prog) (w := w.alloc (.cells #[.int .u32 (s.au : Nat), .int .u32 (s.ev : Nat), .int .u32 (s.nf : Nat), .bool s.rd] 81)) base 42 42 81 i0 (.agg #[.int .u32 0, .int .u32 0, .int .u32 0, .bool false]) 4 16 Try.underlying42 hi hz0 hz1 hz2 rfl (by decide) v n xs hb' ⟨w.heap.size, 0, none⟩ 1 1 [.int .u32 (s.au : Nat), .int .u32 (s.ev : Nat), .int .u32 (s.nf : Nat), .bool s.rd] rfl (fun j u hu => by
    rw [addr_add, World.cell?_alloc_at _ _ _ _ rfl]; simpa using hu) (fun u hu => by simp at hu; rcases hu with rfl | rfl | rfl | rfl <;> rfl) (by simp only [maxLen]; omega) (by omega) (by simp; omega)
  obtain ⟨ao, cap, rfl⟩ := own_formX h2
  refine ⟨ao, cap, w', hr, ⟨_, h2⟩, ((box1 w _).mono (fun _ _ h => h.elim)).grown h3 (fun g hg => .inl hg), fun g hg => ?_⟩
  rcases h5 with e | e
  · rw [e] at hg; exact .inl hg
  · rw [e] at hg; cases hg; exact .inr (by simp)
/-- SessionKept, behind Take: the message is spoilt. -/
structure KC (w W : World) (d M : Nat) (cs : List SC) (dn : List Nat) (T : Nat → Prop) (n : Nat) (S : List ByteArray) (fv hv wv : Value) : Prop where
  s : SS W d 2 cs dn T
  m : W.heap[M]? = some (.cells (mK fv hv).toArray 49)
  f : ∃ xs, W.ownsRow (M + 1) 79 5 fv n xs
  h : ∃ xs, W.ownsRow (M + 1) 81 4 hv n xs
  t : OwT W (M + 1) wv S
  ap : ∀ g, (fv.ownBlock = some g → hv.ownBlock ≠ some g ∧ wv.ownBlock ≠ some g) ∧ (hv.ownBlock = some g → wv.ownBlock ≠ some g)
  tl : w.heap.size ≤ M ∧ ∀ g, T g → w.heap.size ≤ g ∧ g ≠ M ∧ fv.ownBlock ≠ some g ∧ hv.ownBlock ≠ some g ∧ wv.ownBlock ≠ some g
  fr : Fr (fun _ => False) w W
theorem KB.taken {w W W' : World} {d M gh gf cf n : Nat} {q : SC} {T : Nat → Prop} {F : List F5} {H : List SM} {S : List ByteArray} {fv hv wv : Value} {cs : List SC} {dn : List Nat} (h : KB w W d M gh gf cf q T F H S fv hv wv) (hF : F.length = n) (hH : H.length = n) (hs : SS W' d 2 cs dn (Tn T W W')) (hf : Fr T W W') : KC w W' d M cs dn (Tn T W W') n S fv hv wv := by
  have hlo : ∀ g, M ≤ g → ¬ T g := fun g hg e => by have := (h.lt.2.2.2 g e).2; omega
  have hM := lt_of_block h.m
  refine ⟨hs, (hf.block M hM (hlo M (Nat.le_refl _))).trans h.m, ⟨fcells F, ?_⟩, ⟨scells H, ?_⟩, ?_, h.ap, ⟨h.lt.1, fun g hg => ?_⟩, h.fr.trans hf (fun g hg e => by have := (h.lt.2.2.2 g e).1; omega)⟩
  · subst hF; exact ownsRow_of_block h.f (fun g hg => hf.block g (h.f.lt g hg).2 (hlo g (by have := own_ge h.f hg; omega)))
  · subst hH; exact ownsRow_of_block h.h (fun g hg => hf.block g (h.h.lt g hg).2 (hlo g (by have := own_ge h.h hg; omega)))
  · exact ownsRow_of_block h.t (fun g hg => hf.block g (h.t.lt g hg).2 (hlo g (by have := own_ge h.t hg; omega)))
  · rcases hg with hg | hg
    · have h2 := h.lt.2.2.2 g hg
      exact ⟨h2.1, by omega, fun e => by have := own_ge h.f e; omega, fun e => by have := own_ge h.h e; omega, fun e => by have := own_ge h.t e; omega⟩
    · have h1 := hg.1
      have h2 := h.fr.size
      exact ⟨by omega, by omega, fun e => by have := (h.f.lt g e).2; omega, fun e => by have := (h.h.lt g e).2; omega, fun e => by have := (h.t.lt g e).2; omega⟩
theorem KC.fr0 {w W W' : World} {d M n : Nat} {cs : List SC} {dn : List Nat} {T : Nat → Prop} {S : List ByteArray} {fv hv wv : Value} (h : KC w W d M cs dn T n S fv hv wv) (hf : Fr (fun _ => False) W W') : KC w W' d M cs dn T n S fv hv wv := by
  obtain ⟨xs, hx⟩ := h.f
  obtain ⟨ys, hy⟩ := h.h
  exact ⟨h.s.fr0 hf, (hf.block M (lt_of_block h.m) (fun h => h)).trans h.m, ⟨xs, ownsRow_of_block hx (fun g hg => hf.block g (hx.lt g hg).2 (fun h => h))⟩, ⟨ys, ownsRow_of_block hy (fun g hg => hf.block g (hy.lt g hg).2 (fun h => h))⟩, ownsRow_of_block h.t (fun g hg => hf.block g (h.t.lt g hg).2 (fun h => h)), h.ap, h.tl, h.fr.trans0 hf⟩
theorem KC.setF {w W : World} {d M n : Nat} {cs : List SC} {dn : List Nat} {T : Nat → Prop} {S : List ByteArray} {hv wv : Value} {g c : Nat} (h : KC w W d M cs dn T n S (.slice (some ⟨g, 0, none⟩) n c) hv wv) (j : Nat) (u : Value) : KC w (W.setCell ⟨g, j, none⟩ u) d M cs dn T n S (.slice (some ⟨g, 0, none⟩) n c) hv wv := by
  obtain ⟨xs, hx⟩ := h.f
  obtain ⟨ys, hy⟩ := h.h
  have hg := own_ge hx (g := g) rfl
  have hf : Fr (fun k => k = g) W (W.setCell ⟨g, j, none⟩ u) := (Fr.refl (fun k => k = g) _).setCell (p := ⟨g, j, none⟩) (.inl rfl) _
  refine ⟨h.s.fr hf (fun k hk e => (h.tl.2 k hk).2.2.1 (by rw [e]; rfl)), (hf.block M (lt_of_block h.m) (fun e => by omega)).trans h.m, ⟨_, own_set hx rfl j u⟩, ⟨ys, ownsRow_of_block hy (fun k hk => hf.block k (hy.lt k hk).2 (fun e => ((h.ap k).1 (by rw [e]; rfl)).1 hk))⟩, ownsRow_of_block h.t (fun k hk => hf.block k (h.t.lt k hk).2 (fun e => ((h.ap k).1 (by rw [e]; rfl)).2 hk)), h.ap, h.tl, h.fr.trans hf (fun k hk e => by have := h.tl.1; omega)⟩
theorem KC.setH {w W : World} {d M n : Nat} {cs : List SC} {dn : List Nat} {T : Nat → Prop} {S : List ByteArray} {fv wv : Value} {g c : Nat} (h : KC w W d M cs dn T n S fv (.slice (some ⟨g, 0, none⟩) n c) wv) (j : Nat) (u : Value) : KC w (W.setCell ⟨g, j, none⟩ u) d M cs dn T n S fv (.slice (some ⟨g, 0, none⟩) n c) wv := by
  obtain ⟨xs, hx⟩ := h.f
  obtain ⟨ys, hy⟩ := h.h
  have hg := own_ge hy (g := g) rfl
  have hf : Fr (fun k => k = g) W (W.setCell ⟨g, j, none⟩ u) := (Fr.refl (fun k => k = g) _).setCell (p := ⟨g, j, none⟩) (.inl rfl) _
  refine ⟨h.s.fr hf (fun k hk e => (h.tl.2 k hk).2.2.2.1 (by rw [e]; rfl)), (hf.block M (lt_of_block h.m) (fun e => by omega)).trans h.m, ⟨xs, ownsRow_of_block hx (fun k hk => hf.block k (hx.lt k hk).2 (fun e => ((h.ap k).1 hk).1 (by rw [e]; rfl)))⟩, ⟨_, own_set hy rfl j u⟩, ownsRow_of_block h.t (fun k hk => hf.block k (h.t.lt k hk).2 (fun e => (h.ap k).2 (by rw [e]; rfl) hk)), h.ap, h.tl, h.fr.trans hf (fun k hk e => by have := h.tl.1; omega)⟩
/-- The session, and the names that are wanted. -/
structure KD (w W : World) (d : Nat) (cs : List SC) (dn : List Nat) (T : Nat → Prop) (S : List ByteArray) (wv : Value) : Prop where
  s : SS W d 2 cs dn T
  t : OwT W w.heap.size wv S
  tl : ∀ g, T g → w.heap.size ≤ g ∧ wv.ownBlock ≠ some g
  fr : Fr (fun _ => False) w W
theorem KC.kd {w W : World} {d M n : Nat} {cs : List SC} {dn : List Nat} {T : Nat → Prop} {S : List ByteArray} {fv hv wv : Value} (h : KC w W d M cs dn T n S fv hv wv) : KD w W d cs dn T S wv :=
  ⟨h.s, ownsRow_base h.t (by have := h.tl.1; omega), fun g hg => ⟨(h.tl.2 g hg).1, (h.tl.2 g hg).2.2.2.2⟩, h.fr⟩
theorem KD.fr0 {w W W' : World} {d : Nat} {cs : List SC} {dn : List Nat} {T : Nat → Prop} {S : List ByteArray} {wv : Value} (h : KD w W d cs dn T S wv) (hf : Fr (fun _ => False) W W') : KD w W' d cs dn T S wv :=
  ⟨h.s.fr0 hf, ownsRow_of_block h.t (fun g hg => hf.block g (h.t.lt g hg).2 (fun h => h)), h.tl, h.fr.trans0 hf⟩
/-- What the answer that is spoilt must not lie on. -/
structure KO (w : World) (T : Nat → Prop) (wv : Value) (B : Nat) (fb hb : Value) (g : Nat) : Prop where
  w : w.heap.size ≤ g
  t : ¬ T g
  wv : wv.ownBlock ≠ some g
  b : g ≠ B
  fb : fb.ownBlock ≠ some g
  hb : hb.ownBlock ≠ some g
/-- And the second answer, in its box. -/
structure KS (w W : World) (d : Nat) (cs : List SC) (dn : List Nat) (T : Nat → Prop) (S : List ByteArray) (wv : Value) (B : Nat) (F : List F5) (H : List SM) (fb hb : Value) : Prop where
  k : KD w W d cs dn T S wv
  b : W.heap[B]? = some (.cells (AN.cs ⟨2, 1, 0, 1, 1, fb, hb⟩).toArray 44)
  f : OwF W w.heap.size fb F
  h : OwS W w.heap.size hb H
  bl : w.heap.size ≤ B
theorem KS.fr {w W W' : World} {d : Nat} {cs : List SC} {dn : List Nat} {T X : Nat → Prop} {S : List ByteArray} {wv : Value} {B : Nat} {F : List F5} {H : List SM} {fb hb : Value} (h : KS w W d cs dn T S wv B F H fb hb) (hf : Fr X W W') (hX : ∀ g, X g → KO w T wv B fb hb g) : KS w W' d cs dn T S wv B F H fb hb :=
  ⟨⟨h.k.s.fr hf (fun g hg e => (hX g e).t hg), ownsRow_of_block h.k.t (fun g hg => hf.block g (h.k.t.lt g hg).2 (fun e => (hX g e).wv hg)), h.k.tl, h.k.fr.trans hf (fun g hg e => by have := (hX g e).w; omega)⟩, (hf.block B (lt_of_block h.b) (fun e => (hX B e).b rfl)).trans h.b, h.f.fr hf (fun g hg e => (hX g e).fb hg), ownsRow_of_block h.h (fun g hg => hf.block g (h.h.lt g hg).2 (fun e => (hX g e).hb hg)), h.bl⟩
theorem KS.fr0 {w W W' : World} {d : Nat} {cs : List SC} {dn : List Nat} {T : Nat → Prop} {S : List ByteArray} {wv : Value} {B : Nat} {F : List F5} {H : List SM} {fb hb : Value} (h : KS w W d cs dn T S wv B F H fb hb) (hf : Fr (fun _ => False) W W') : KS w W' d cs dn T S wv B F H fb hb := h.fr hf (fun _ h => h.elim)
/-- What is new lies on nothing. -/
theorem KS.new {w W : World} {d : Nat} {cs : List SC} {dn : List Nat} {T : Nat → Prop} {S : List ByteArray} {wv : Value} {B : Nat} {F : List F5} {H : List SM} {fb hb : Value} (h : KS w W d cs dn T S wv B F H fb hb) {g : Nat} (hg : W.heap.size ≤ g) : KO w T wv B fb hb g :=
  ⟨by have := h.k.fr.size; omega, fun e => by have := h.k.s.lt g e; omega, fun e => by have := (h.k.t.lt g e).2; omega, fun e => by have := lt_of_block h.b; omega, fun e => by have := (h.f.lt g e).2; omega, fun e => by have := (h.h.lt g e).2; omega⟩
/-- And the first answer, whatever its lists hold. -/
structure KE (w W : World) (d : Nat) (cs : List SC) (dn : List Nat) (T : Nat → Prop) (S : List ByteArray) (wv : Value) (B : Nat) (F : List F5) (H : List SM) (fb hb : Value) (A : Nat) (fa ha : Value) (P Q : Nat → List Value → Prop) : Prop where
  k : KS w W d cs dn T S wv B F H fb hb
  a : W.heap[A]? = some (.cells (AN.cs ⟨2, 1, 0, 1, 1, fa, ha⟩).toArray 44)
  f : ∃ n xs, W.ownsRow 0 79 5 fa n xs ∧ P n xs
  h : ∃ n xs, W.ownsRow 0 81 4 ha n xs ∧ Q n xs
  oa : KO w T wv B fb hb A
  of : ∀ g, fa.ownBlock = some g → KO w T wv B fb hb g ∧ ha.ownBlock ≠ some g ∧ g ≠ A
  oh : ∀ g, ha.ownBlock = some g → KO w T wv B fb hb g ∧ g ≠ A
variable {w W W' : World} {d : Nat} {cs : List SC} {dn : List Nat} {T : Nat → Prop} {S : List ByteArray} {wv : Value} {B : Nat} {F : List F5} {H : List SM} {fb hb : Value} {A : Nat} {fa ha : Value} {P P' Q Q' : Nat → List Value → Prop}
theorem KE.fr0 (h : KE w W d cs dn T S wv B F H fb hb A fa ha P Q) (hf : Fr (fun _ => False) W W') : KE w W' d cs dn T S wv B F H fb hb A fa ha P Q := by
  obtain ⟨n, xs, hx, hp⟩ := h.f
  obtain ⟨m, ys, hy, hq⟩ := h.h
  exact ⟨h.k.fr0 hf, (hf.block A (lt_of_block h.a) (fun h => h)).trans h.a, ⟨n, xs, ownsRow_of_block hx (fun g hg => hf.block g (hx.lt g hg).2 (fun h => h)), hp⟩, ⟨m, ys, ownsRow_of_block hy (fun g hg => hf.block g (hy.lt g hg).2 (fun h => h)), hq⟩, h.oa, h.of, h.oh⟩
theorem KE.weak (h : KE w W d cs dn T S wv B F H fb hb A fa ha P Q) (hP : ∀ n xs, P n xs → P' n xs) (hQ : ∀ n xs, Q n xs → Q' n xs) : KE w W d cs dn T S wv B F H fb hb A fa ha P' Q' := by
  obtain ⟨n, xs, hx, hp⟩ := h.f
  obtain ⟨m, ys, hy, hq⟩ := h.h
  exact ⟨h.k, h.a, ⟨n, xs, hx, hP _ _ hp⟩, ⟨m, ys, hy, hQ _ _ hq⟩, h.oa, h.of, h.oh⟩
theorem KE.setF {g n c : Nat} (h : KE w W d cs dn T S wv B F H fb hb A (.slice (some ⟨g, 0, none⟩) n c) ha P Q) (j : Nat) (u : Value) (hP : ∀ m xs, P m xs → P' m (xs.set j u)) : KE w (W.setCell ⟨g, j, none⟩ u) d cs dn T S wv B F H fb hb A (.slice (some ⟨g, 0, none⟩) n c) ha P' Q := by
  obtain ⟨n', xs, hx, hp⟩ := h.f
  obtain ⟨m, ys, hy, hq⟩ := h.h
  have hnn : n' = n := by
    obtain ⟨ao, cap, e⟩ := own_formX hx
    exact (Value.slice.inj e).2.1.symm
  subst hnn
  have ho := h.of g rfl
  have hf : Fr (fun k => k = g) W (W.setCell ⟨g, j, none⟩ u) := (Fr.refl (fun k => k = g) _).setCell (p := ⟨g, j, none⟩) (.inl rfl) _
  exact ⟨h.k.fr hf (fun k e => by rw [e]; exact ho.1), (hf.block A (lt_of_block h.a) (fun e => ho.2.2 e.symm)).trans h.a, ⟨n', _, own_set hx rfl j u, hP _ _ hp⟩, ⟨m, ys, ownsRow_of_block hy (fun k hk => hf.block k (hy.lt k hk).2 (fun e => ho.2.1 (by rw [← e]; exact hk))), hq⟩, h.oa, h.of, h.oh⟩
theorem KE.setH {g n c : Nat} (h : KE w W d cs dn T S wv B F H fb hb A fa (.slice (some ⟨g, 0, none⟩) n c) P Q) (j : Nat) (u : Value) (hQ : ∀ m xs, Q m xs → Q' m (xs.set j u)) : KE w (W.setCell ⟨g, j, none⟩ u) d cs dn T S wv B F H fb hb A fa (.slice (some ⟨g, 0, none⟩) n c) P Q' := by
  obtain ⟨m, xs, hx, hp⟩ := h.f
  obtain ⟨n', ys, hy, hq⟩ := h.h
  have hnn : n' = n := by
    obtain ⟨ao, cap, e⟩ := own_formX hy
    exact (Value.slice.inj e).2.1.symm
  subst hnn
  have ho := h.oh g rfl
  have hf : Fr (fun k => k = g) W (W.setCell ⟨g, j, none⟩ u) := (Fr.refl (fun k => k = g) _).setCell (p := ⟨g, j, none⟩) (.inl rfl) _
  exact ⟨h.k.fr hf (fun k e => by rw [e]; exact ho.1), (hf.block A (lt_of_block h.a) (fun e => ho.2 e.symm)).trans h.a, ⟨m, xs, ownsRow_of_block hx (fun k hk => hf.block k (hx.lt k hk).2 (fun e => (h.of k hk).2.1 (by rw [e]; rfl))), hp⟩, ⟨n', _, own_set hy rfl j u, hQ _ _ hq⟩, h.oa, h.of, h.oh⟩
theorem KE.appF {n : Nat} {ys : List Value} {fa' : Value} (h : KE w W d cs dn T S wv B F H fb hb A fa ha P Q) (h2 : W'.ownsRow 0 79 5 fa' n ys) (hf : Fr (fun g => fa.ownBlock = some g) W W') (hb2 : ∀ g, fa'.ownBlock = some g → fa.ownBlock = some g ∨ W.heap.size ≤ g) (hP : P' n ys) : KE w (W'.setCell ⟨A, 5, none⟩ fa') d cs dn T S wv B F H fb hb A fa' ha P' Q := by
  obtain ⟨m, zs, hy, hq⟩ := h.h
  have hA := lt_of_block h.a
  have nA : fa.ownBlock ≠ some A := fun e => (h.of A e).2.2 rfl
  have hfs : Fr (fun g => fa.ownBlock = some g ∨ g = A) W (W'.setCell ⟨A, 5, none⟩ fa') := (hf.mono (fun _ _ e => .inl e)).setCell (p := ⟨A, 5, none⟩) (.inl (.inr rfl)) _
  have hf2 : Fr (fun g => g = A) W' (W'.setCell ⟨A, 5, none⟩ fa') := (Fr.refl (fun g => g = A) _).setCell (p := ⟨A, 5, none⟩) (.inl rfl) _
  have hnew : ∀ g, fa'.ownBlock = some g → KO w T wv B fb hb g ∧ ha.ownBlock ≠ some g ∧ g ≠ A := fun g hg => by
    rcases hb2 g hg with e | e
    · exact h.of g e
    · exact ⟨h.k.new e, fun e2 => by have := (hy.lt g e2).2; omega, by omega⟩
  refine ⟨h.k.fr hfs (fun g e => ?_), ?_, ⟨n, ys, ownsRow_of_block h2 (fun g hg => hf2.block g (h2.lt g hg).2 (hnew g hg).2.2), hP⟩, ⟨m, zs, ownsRow_of_block hy (fun g hg => hfs.block g (hy.lt g hg).2 (fun e => ?_)), hq⟩, h.oa, hnew, h.oh⟩
  · rcases e with e | e
    · exact (h.of g e).1
    · rw [e]; exact h.oa
  · rw [blkset ((hf.block A hA nA).trans h.a)]
    simp [AN.cs]
  · rcases e with e | e
    · exact (h.of g e).2.1 hg
    · exact (h.oh g hg).2 e
theorem KE.appH {n : Nat} {ys : List Value} {ha' : Value} (h : KE w W d cs dn T S wv B F H fb hb A fa ha P Q) (h2 : W'.ownsRow 0 81 4 ha' n ys) (hf : Fr (fun g => ha.ownBlock = some g) W W') (hb2 : ∀ g, ha'.ownBlock = some g → ha.ownBlock = some g ∨ W.heap.size ≤ g) (hQ : Q' n ys) : KE w (W'.setCell ⟨A, 6, none⟩ ha') d cs dn T S wv B F H fb hb A fa ha' P Q' := by
  obtain ⟨m, zs, hy, hq⟩ := h.f
  have hA := lt_of_block h.a
  have nA : ha.ownBlock ≠ some A := fun e => (h.oh A e).2 rfl
  have hfs : Fr (fun g => ha.ownBlock = some g ∨ g = A) W (W'.setCell ⟨A, 6, none⟩ ha') := (hf.mono (fun _ _ e => .inl e)).setCell (p := ⟨A, 6, none⟩) (.inl (.inr rfl)) _
  have hf2 : Fr (fun g => g = A) W' (W'.setCell ⟨A, 6, none⟩ ha') := (Fr.refl (fun g => g = A) _).setCell (p := ⟨A, 6, none⟩) (.inl rfl) _
  have hnew : ∀ g, ha'.ownBlock = some g → KO w T wv B fb hb g ∧ g ≠ A := fun g hg => by
    rcases hb2 g hg with e | e
    · exact h.oh g e
    · exact ⟨h.k.new e, by omega⟩
  refine ⟨h.k.fr hfs (fun g e => ?_), ?_, ⟨m, zs, ownsRow_of_block hy (fun g hg => hfs.block g (hy.lt g hg).2 (fun e => ?_)), hq⟩, ⟨n, ys, ownsRow_of_block h2 (fun g hg => hf2.block g (h2.lt g hg).2 (hnew g hg).2), hQ⟩, h.oa, fun g hg => ⟨(h.of g hg).1, fun e => ?_, (h.of g hg).2.2⟩, hnew⟩
  · rcases e with e | e
    · exact (h.oh g e).1
    · rw [e]; exact h.oa
  · rw [blkset ((hf.block A hA nA).trans h.a)]
    simp [AN.cs]
  · rcases e with e | e
    · exact (h.of g hg).2.1 e
    · exact (h.of g hg).2.2 e
  · rcases hb2 g e with e | e
    · exact (h.of g hg).2.1 e
    · have := (hy.lt g hg).2; omega
theorem fN_at {l : List ByteArray} {i : Nat} {s : ByteArray} (h : l[i]? = some s) : (fcells (l.map fN))[i * 5]? = some (.string s) := by
  obtain ⟨hi, he⟩ := List.getElem?_eq_some_iff.1 h
  rw [(fcells_at (l.map fN) i (by simpa using hi)).1]
  simp [fN, he]
theorem sN_at {n i : Nat} (h : i < n) : (scells ((List.range n).map sN))[i * 4]? = some (.int .u32 (i : Nat)) := by
  rw [(scells_at ((List.range n).map sN) i (by simpa using h)).1]
  simp [sN]
/-- An element of a row of one's own, not frozen. -/
theorem own_cell {W : World} {b e z m g c : Nat} {xs : List Value} (h : W.ownsRow b e z (.slice (some ⟨g, 0, none⟩) m c) m xs) {j : Nat} (hj : j < m * z) : (∃ x, W.cell? ⟨g, j, none⟩ = some x) ∧ W.frozen? ⟨g, j, none⟩ = false := by
  refine ⟨⟨_, (h.cellAt j hj).trans (List.getElem?_eq_getElem (by have := h.1; omega))⟩, ?_⟩
  obtain ⟨cur, hb⟩ := own_blk h (g := g) rfl
  simp [World.frozen?, hb]
end Go.Proofs.Ytfaponkpgcdgkaa

