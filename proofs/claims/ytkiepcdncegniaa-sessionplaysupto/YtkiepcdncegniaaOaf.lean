import Derived.Test.YtkiepcdncegniaaOae
namespace Go.Proofs.Ytkiepcdncegniaa
open Go.RowKit

theorem Try.leqS (v a : ByteArray) (w : World) : (binOp .leq 9 (.string v) (.string a)).run Try.prog w = .ok (.bool (sleB v a)) w := by simp [binOp, Op.stringOp, sleB]
set_option maxHeartbeats 2000000 in
set_option maxRecDepth 100000 in
theorem areFormed_any (x : Value) (l : List F5) (gone : Bool) (w : World) (hx : Fds w x l) (hl : l.length ≤ 140737488355328) (hv : ∀ f ∈ l, f.v < 4294967296 ∧ f.u < 256) :
    Calls Try.prog 36 #[x, .bool gone] w fun e w' => e = .returned (.bool (fdsB l gone)) ∧ Fr (fun _ => False) w w' := by
  obtain ⟨xo, xc, rfl⟩ := hx.form
  have HX := hide hx
  clear hx
  by_cases h32 : (32 : Int) < (l.length : Int)
  · rw [show fdsB l gone = false by simp only [fdsB, decide_eq_false (show ¬ l.length ≤ 32 by omega), Bool.false_and]]
    go_enter Try.func36, Try.ntmps36
    go_wp2_with fail
    go_ret
    exact ⟨rfl, Fr.refl _ _⟩
  · rw [show fdsB l gone = risB gone ⟨#[]⟩ l by simp only [fdsB, decide_eq_true (show l.length ≤ 32 by omega), Bool.true_and]]
    go_enter Try.func36, Try.ntmps36
    go_wp2_with fail
    go_loopw [5, 13] (fun av iv wr => ∃ (j : Nat) (a : ByteArray), j ≤ l.length ∧ av = .string a ∧ iv = .int .i64 (j : Nat) ∧ risB gone ⟨#[]⟩ l = risB gone a (l.drop j) ∧ Fr (fun _ => False) w wr) (fun _ iv _ => l.length - (intOf iv).toNat)
    case atStart => exact ⟨0, _, Nat.zero_le _, rfl, rfl, by simp, Fr.refl _ _⟩
    case round =>
      obtain ⟨j, a, hj, rfl, rfl, hr, hf⟩ := hrel
      by_cases hlt : j < l.length
      · obtain ⟨g, o, rfl, c0, c1, c2, c3, c4⟩ := ((unhide HX).fr hf).at_ j hlt
        have hvj := hv l[j] (List.getElem_mem hlt)
        have hdr : l.drop j = l[j] :: l.drop (j + 1) := List.drop_eq_getElem_cons hlt
        rw [hdr] at hr
        generalize l[j] = f at c0 c1 c2 c3 c4 hvj hr
        have hi1 : (j : Int) < (l.length : Int) := by omega
        have HR := hide (And.intro hr hf)
        clear hr hf hdr
        have hleq := Try.leqS
        cases hs : sleB f.n a with
        | true =>
          go_wp2_with fail
          go_ret
          refine ⟨?_, (unhide HR).2.trans (box1 wr _) (fun _ _ h => h)⟩
          rw [(unhide HR).1, risB, hs]
          rfl
        | false =>
          have HC := hide (fun W' => isFormed_any f W' hvj.1 hvj.2)
          have HB := hide (fun W' => fbox wr W' f 79)
          have HN := hide hs
          simp only [F5.val, F5.cs] at HC HB
          go_wp2_with fail
          refine ((unhide HC) _).mono ?_
          rintro e w2 ⟨rfl, hf2⟩
          obtain ⟨b0, b1, b2, b3, b4⟩ := (unhide HB) w2 hf2
          have H2 := hide (((unhide HR).2.trans (box1 wr _) (fun _ _ h => h)).trans hf2 (fun _ _ h => h))
          have hb2 : wr.heap.size < w2.heap.size := lt_of_cell b0
          clear HC HB hf2
          cases hfl : fldB f with
          | false =>
            go_wp2_with fail
            go_ret
            refine ⟨?_, unhide H2⟩
            rw [(unhide HR).1, risB, unhide HN, hfl]
            rfl
          | true =>
            by_cases hk3 : f.k = 3
            · have b3' : ((f.k : Int) == 3) = true := by rw [hk3]; rfl
              rcases Bool.eq_false_or_eq_true gone with hg | hg
              · subst hg
                go_wp2_with fail
                refine ⟨⟨j + 1, f.n, by omega, rfl, by go_num, ?_, unhide H2⟩, by simp [intOf]; omega⟩
                rw [(unhide HR).1, risB, unhide HN, hfl, hk3]
                rfl
              · subst hg
                go_wp2_with fail
                go_ret
                refine ⟨?_, unhide H2⟩
                rw [(unhide HR).1, risB, unhide HN, hfl, hk3]
                rfl
            · have b3' : ((f.k : Int) == 3) = false := by rw [beq_eq_false_iff_ne]; omega
              go_wp2_with fail
              refine ⟨⟨j + 1, f.n, by omega, rfl, by go_num, ?_, unhide H2⟩, by simp [intOf]; omega⟩
              rw [(unhide HR).1, risB, unhide HN, hfl, decide_eq_true (show f.k ≠ 3 from hk3)]
              rfl
      · go_wp2_with fail
        go_ret
        refine ⟨?_, hf⟩
        rw [hr, List.drop_eq_nil_of_le (by omega)]
        rfl
end Go.Proofs.Ytkiepcdncegniaa
