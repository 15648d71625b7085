import Derived.Test.YtheehhplopbceaaDoorSga
namespace Go.Proofs.YtheehhplopbceaaDoor
open Go.RowKit

theorem Tryd.infoU64 : (Tryd.prog.info? 31).map (fun i => (i.zero, i.size, i.bytes)) = some (some (.int .u64 0), 1, 8) := by kernel_rfl
/-- Numbers of one's own, laid since w. -/
structure OQ (w wr : World) (xo : Option Addr) (cp : Nat) (l : List Nat) : Prop where
  own : wr.ownsRow w.heap.size 31 1 (.slice xo l.length cp) l.length (V64 l)
  fr : Fr (fun _ => False) w wr
theorem OQ.app1 {w wr : World} {xo : Option Addr} {cp : Nat} {l : List Nat} (h : OQ w wr xo cp l) (v : Nat) (hb : l.length < 100000) :
    ∃ ao cp' w2, (Builtin.append_ #[33, 33] 33 #[.slice xo l.length cp, .slice (some ⟨wr.heap.size, 0, none⟩) 1 1]).run Tryd.prog (wr.alloc (.cells #[.int .u64 (v : Int)] 31)) = .ok (.slice ao (l.length + 1) cp') w2 ∧ OQ w w2 ao cp' (l ++ [v]) := by
  obtain ⟨i0, hi, hz0, hz1, hz2⟩ := info_parts Tryd.infoU64
  have h2 : (wr.alloc (.cells #[.int .u64 (v : Int)] 31)).ownsRow w.heap.size 31 1 (.slice xo l.length cp) l.length (V64 l) := ownsRow_of_block h.own (fun g hg => Below.heap_alloc _ _ _ (h.own.lt g hg).2)
  obtain ⟨v', w', hr, h3, h4, _, _⟩ := run_append_own_at (P := Tryd.prog) (wr.alloc (.cells #[.int .u64 (v : Int)] 31)) w.heap.size 33 33 31 i0 (.int .u64 0) 1 8 Tryd.underlying33 hi hz0 hz1 hz2 rfl (by decide) (.slice xo l.length cp) l.length (V64 l) h2 ⟨wr.heap.size, 0, none⟩ 1 1 [.int .u64 (v : Int)] rfl (fun j u hu => by
    rw [add_at, World.cell?_alloc_at _ _ _ _ rfl]; simpa using hu) (fun u hu => by simp at hu; subst hu; rfl) (by simp only [maxLen]; omega) (by omega) (by have := h.fr.size; simp; omega)
  have hf : ∃ ao cap, v' = .slice ao (l.length + 1) cap := by
    rcases h3.2 with ⟨_, e⟩ | ⟨g, cap, cur, rfl, _⟩
    · omega
    · exact ⟨some ⟨g, 0, none⟩, cap, rfl⟩
  obtain ⟨ao, cap, rfl⟩ := hf
  refine ⟨ao, cap, w', hr, ?_, (h.fr.alloc _).grown h4 (fun g hg => .inr (h.own.lt g hg).1)⟩
  have e : V64 (l ++ [v]) = V64 l ++ [.int .u64 (v : Int)] := by simp [V64]
  rw [e, List.length_append]
  exact h3
/-- The primes below k + 2. -/
def prm : Nat → List Nat
  | 0 => []
  | k + 1 => if (prm k).all (fun d => (k + 2) % d != 0) then prm k ++ [k + 2] else prm k
def prl : List Nat := [2, 3, 5, 7, 11, 13, 17, 19, 23, 29, 31, 37, 41, 43, 47, 53, 59, 61, 67, 71, 73, 79, 83, 89, 97, 101, 103, 107, 109, 113, 127, 131, 137, 139, 149, 151, 157, 163, 167, 173, 179, 181, 191, 193, 197, 199, 211, 223, 227, 229, 233, 239, 241, 251, 257, 263, 269, 271, 277, 281, 283, 293, 307, 311]
theorem prm_end : prm 310 = prl := by decide +kernel
theorem prm_pos (k : Nat) : ∀ d ∈ prm k, 2 ≤ d := by
  induction k with
  | zero => intro d hd; cases hd
  | succ k ih =>
    intro d hd
    rw [prm] at hd
    split at hd
    · rcases List.mem_append.1 hd with h | h
      · exact ih d h
      · simp at h; omega
    · exact ih d hd
theorem prm_mono (k : Nat) : (prm k).length ≤ (prm (k + 1)).length := by
  rw [prm]
  split
  · rw [List.length_append]; omega
  · exact Nat.le_refl _
theorem prm_le {a b : Nat} (h : a ≤ b) : (prm a).length ≤ (prm b).length := by
  induction b with
  | zero => rw [show a = 0 by omega]; exact Nat.le_refl _
  | succ b ih =>
    by_cases e : a = b + 1
    · rw [e]; exact Nat.le_refl _
    · exact Nat.le_trans (ih (by omega)) (prm_mono b)
theorem prm_309 : (prm 309).length = 63 := by decide +kernel
set_option maxRecDepth 100000 in
set_option maxHeartbeats 1000000 in
theorem primes_any (w : World) : Calls Tryd.prog 17 #[.int .i64 64] w fun e w' => ∃ ao cp, e = .returned (.slice ao 64 cp) ∧ OQ w w' ao cp prl := by
  go_enter Tryd.func17, Tryd.ntmps17
  go_wp2_with fail
  go_loopw [3, 4] (fun lv pv wr => ∃ (k : Nat) (ao : Option Addr) (cp n : Nat), k ≤ 310 ∧ lv = .slice ao n cp ∧ n = (prm k).length ∧ pv = .int .u64 ((k : Int) + 2) ∧ OQ w wr ao cp (prm k)) (fun _ pv _ => 312 - (intOf pv).toNat)
  case atStart => exact ⟨0, none, 0, 0, Nat.zero_le _, rfl, rfl, rfl, ⟨⟨rfl, .inl ⟨rfl, rfl⟩⟩, Fr.refl _ _⟩⟩
  case round =>
    obtain ⟨k, ao, cp, n, hk, rfl, hn, rfl, hO⟩ := hrel
    rename World => wr
    by_cases hlt : n < 64
    · have hk' : k < 310 := by
        rcases Nat.lt_or_ge k 310 with h | h
        · exact h
        · exfalso
          have e : k = 310 := by omega
          rw [e, prm_end] at hn
          have : prl.length = 64 := rfl
          omega
      have hlt' : (n : Int) < 64 := by omega
      go_wp2_with fail
      go_loopw [5, 6] (fun bv iv wq => ∃ j : Nat, j ≤ n ∧ iv = .int .i64 (j : Nat) ∧ bv = .bool (((prm k).take j).all (fun d => (k + 2) % d != 0)) ∧ wq = wr) (fun _ iv _ => n - (intOf iv).toNat)
      case atStart => exact ⟨0, Nat.zero_le _, rfl, rfl, rfl⟩
      case round =>
        obtain ⟨j, hj, rfl, rfl, rfl⟩ := hrel
        rename World => wq
        by_cases hjl : j < n
        · have hjl' : (j : Int) < (n : Int) := by omega
          have hj2 : j < (prm k).length := by omega
          obtain ⟨g, rfl⟩ : ∃ g, ao = some ⟨g, 0, none⟩ := by
            rcases hO.own.2 with ⟨_, e⟩ | ⟨g, cap, cur, e, _⟩
            · omega
            · simp only [Value.slice.injEq] at e
              exact ⟨g, e.1⟩
          have hc : wq.cell? ⟨g, j, none⟩ = some (.int .u64 ((prm k)[j] : Nat)) := by
            rw [hO.own.cellAt j (by omega), V64, List.getElem?_map, List.getElem?_eq_getElem hj2, Option.map_some]
          have hp := prm_pos k (prm k)[j] (List.getElem_mem hj2)
          have hall : ((prm k).take (j + 1)).all (fun d => (k + 2) % d != 0) = (((prm k).take j).all (fun d => (k + 2) % d != 0) && ((k + 2) % (prm k)[j] != 0)) := by
            rw [List.take_add_one, List.getElem?_eq_getElem hj2, Option.toList_some, List.all_append]
            simp
          generalize (prm k)[j] = d at *
          have HA := hide (And.intro hO hall)
          clear hO hall
          have d0 : ¬ (d : Int) = 0 := by omega
          generalize ((prm k).take j).all (fun d => (k + 2) % d != 0) = B0 at *
          rcases B0 with _ | _
          · go_wp2_with fail
            exact ⟨⟨j + 1, by omega, by go_num, by rw [(unhide HA).2]; rfl, trivial⟩, by simp [intOf]; omega⟩
          · go_wp2_with fail
            have hm : (((k : Int) + 2) % (d : Int) != 0) = ((k + 2) % d != 0) := by
              rw [show (k : Int) + 2 = ((k + 2 : Nat) : Int) from rfl, ← Int.natCast_emod]
              by_cases h : (k + 2) % d = 0
              · rw [h]; rfl
              · have h1 : ((((k + 2) % d : Nat) : Int) != 0) = true := by simp only [bne_iff_ne]; omega
                have h2 : ((k + 2) % d != 0) = true := by simp only [bne_iff_ne]; omega
                rw [h1, h2]
            exact ⟨⟨j + 1, by omega, by go_num, by rw [(unhide HA).2, hm]; rfl, trivial⟩, by simp [intOf]; omega⟩
        · have hjn : j = n := by omega
          have hjl' : ¬ (j : Int) < (n : Int) := by omega
          have hst : prm (k + 1) = if ((prm k).take j).all (fun d => (k + 2) % d != 0) then prm k ++ [k + 2] else prm k := by
            rw [List.take_of_length_le (by omega)]; rfl
          have w1 : IntKind.u64.wrap ((k : Int) + 2 + 1) = (k : Int) + 2 + 1 := by rw [IntKind.wrap_u64]; omega
          generalize ((prm k).take j).all (fun d => (k + 2) % d != 0) = B0 at *
          rcases B0 with _ | _
          · rw [if_neg (by decide)] at hst
            have hO2 : OQ w wq ao cp (prm (k + 1)) := by rw [hst]; exact hO
            have HO := hide (And.intro hO2 (show n = (prm (k + 1)).length by rw [hst]; exact hn))
            clear hO hO2 hst hn hjn
            go_wp2_with fail
            exact ⟨⟨k + 1, ao, cp, n, by omega, rfl, (unhide HO).2, by go_num, (unhide HO).1⟩, by simp [intOf]; omega⟩
          · rw [if_pos rfl] at hst
            obtain ⟨a4, c4, w4, hr4, hO4⟩ := hO.app1 (k + 2) (by omega)
            rw [← hst] at hO4
            rw [← hn] at hr4
            have HO := hide (And.intro hO4 (show n + 1 = (prm (k + 1)).length by rw [hst, List.length_append, ← hn]; rfl))
            have HR4 := hide (show (Builtin.append_ #[33, 33] 33 #[.slice ao n cp, .slice (some ⟨wq.heap.size, 0, none⟩) 1 1]).run Tryd.prog (wq.alloc (.cells #[.int .u64 ((k : Int) + 2)] 31)) = .ok (.slice a4 (n + 1) c4) w4 from hr4)
            clear hO hO4 hst hn hr4 hjn
            go_wp2_with (at_builtin; refine wpList_app rfl (.tmp 30) (.tmp 32) 33 33 rfl _ _ _ rfl rfl (unhide HR4) ?_)
            exact ⟨⟨k + 1, a4, c4, n + 1, by omega, rfl, (unhide HO).2, by go_num, (unhide HO).1⟩, by simp [intOf]; omega⟩
    · have hk' : k = 310 := by
        rcases Nat.lt_or_ge k 310 with h | h
        · exfalso
          have := prm_le (show k ≤ 309 by omega)
          rw [prm_309] at this
          omega
        · omega
      have hn64 : n = 64 := by rw [hn, hk', prm_end]; rfl
      have hlt' : ¬ (n : Int) < 64 := by omega
      have hO2 : OQ w wr ao cp prl := by rw [hk', prm_end] at hO; exact hO
      have HO := hide (And.intro hO2 hn64)
      clear hO hO2 hn hn64
      go_wp2_with fail
      go_ret
      obtain ⟨h1, h2⟩ := unhide HO
      subst h2
      exact ⟨ao, cp, rfl, h1⟩
end Go.Proofs.YtheehhplopbceaaDoor
