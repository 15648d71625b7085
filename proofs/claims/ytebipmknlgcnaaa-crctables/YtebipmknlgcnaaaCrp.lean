import Derived.Test.YtebipmknlgcnaaaCrm
namespace Go.Proofs.Ytebipmknlgcnaaa
open Go.RowKit

theorem cellsOf_append (a b : List Nat) : cellsOf (a ++ b) = cellsOf a ++ cellsOf b := by simp [cellsOf]
theorem cellsOf_length (a : List Nat) : (cellsOf a).length = a.length := by simp [cellsOf]
theorem cellsOf_one (a : List Nat) : ∀ u ∈ cellsOf a, u.oneCell' = true := by
  intro u hu
  simp only [cellsOf, List.mem_map] at hu
  obtain ⟨c, _, rfl⟩ := hu
  rfl

theorem own_form {w : World} {base n : Nat} {v : Value} {xs : List Value} (h : w.ownsRow base 5 1 v n xs) : ∃ ao cap, v = .slice ao n cap := by
  rcases h.2 with ⟨rfl, rfl⟩ | ⟨g, cap, cur, rfl, _⟩
  · exact ⟨none, 0, rfl⟩
  · exact ⟨some ⟨g, 0, none⟩, cap, rfl⟩

/-- append(v, x...) of bytes. -/
theorem run_app_sl (w : World) (ty base n : Nat) (v x : Value) (xs : List Value) (l : List Nat) (hown : w.ownsRow base 5 1 v n xs) (hx : Src w x l) (hb : n + l.length ≤ 140737488355328) (hbase : base ≤ w.heap.size) :
    ∃ ao cap w', (Builtin.append_ #[27, 27] ty #[v, x]).run Try.prog w = .ok (.slice ao (n + l.length) cap) w' ∧ w'.ownsRow base 5 1 (.slice ao (n + l.length) cap) (n + l.length) (xs ++ cellsOf l) ∧ w.grownBy w' v.ownBlock ∧
      ((Value.slice ao (n + l.length) cap).ownBlock = v.ownBlock ∨ (Value.slice ao (n + l.length) cap).ownBlock = some w.heap.size) := by
  obtain ⟨i0, hi, hz0, hz1, hz2⟩ := info_parts Try.infoU8
  rcases hx with ⟨rfl, rfl⟩ | ⟨g, o, c, rfl, hc⟩ | ⟨ad, c, rfl, rfl⟩
  · have hr := run_append_owned_none (P := Try.prog) w base 27 ty 5 i0 1 Try.underlying27 hi v n xs hown
    obtain ⟨ao, cap, rfl⟩ := own_form hown
    exact ⟨ao, cap, w, by simpa using hr, by simpa [cellsOf] using hown, ⟨rfl, rfl, rfl, Nat.le_refl _, fun _ _ _ => rfl⟩, .inl rfl⟩
  · obtain ⟨v', w', hr, h2, h3, _, h5⟩ := run_append_own_at (P := Try.prog) w base 27 ty 5 i0 (.int .u8 0) 1 1 Try.underlying27 hi hz0 hz1 hz2 rfl (by decide) v n xs hown ⟨g, o, none⟩ l.length c (cellsOf l) (by simp [cellsOf_length]) (fun j u hu => by
        have e : (⟨g, o, none⟩ : Addr).add j = ⟨g, o + j, none⟩ := by unfold Addr.add; split <;> simp_all
        rw [e]; exact hc j u hu) (cellsOf_one l) (by simp only [maxLen]; omega) (by omega) hbase
    obtain ⟨ao, cap, rfl⟩ := own_form h2
    exact ⟨ao, cap, w', hr, h2, h3, h5⟩
  · obtain ⟨v', w', hr, h2, h3, _, h5⟩ := run_append_own_at (P := Try.prog) w base 27 ty 5 i0 (.int .u8 0) 1 1 Try.underlying27 hi hz0 hz1 hz2 rfl (by decide) v n xs hown ad 0 c [] rfl (fun j u hu => by simp at hu) (fun u hu => by simp at hu) (by simp only [maxLen]; simp at hb; omega) (by simp at hb; omega) hbase
    obtain ⟨ao, cap, rfl⟩ := own_form h2
    exact ⟨ao, cap, w', hr, h2, h3, h5⟩

theorem wpList_app {P : Program} {w w' : World} {ops : Array Oper} {rest : List Oper} {o : Oper} {a : Act} {Q : Exit → Act → World → Prop} (hgd : o.guard = none) (s x : Operand) (t u : TypeId)
    (ho : o.op = .call { callee := .builtin .append, args := #[s, x], argTypes := #[t, u] }) (vs vx v' : Value) (hs : a.eval s = vs) (hx : a.eval x = vx) (hr : (Builtin.append_ #[t, u] o.type #[vs, vx]).run P w = .ok v' w')
    (h : wpList P ops Q rest (a.put o.dst v') w') : wpList P ops Q (o :: rest) a w := by
  refine wpList_plain hgd fun K hK => ?_
  unfold Oper.wp execOp
  simp only [ho, resolve, invoke, builtin, Sem.run_bind, Sem.run_pure, Result.andThen_ok, List.map_toArray, List.map_cons, List.map_nil, hs, hx, hr]
  exact hK _ _ h

/-- What a row of the call's own holds. -/
theorem own_src {w : World} {base n : Nat} {v : Value} {l : List Nat} (h : w.ownsRow base 5 1 v n (cellsOf l)) : Src w v l := by
  have hn : n = l.length := by have := h.1; simpa [cellsOf] using this.symm
  subst hn
  rcases h.2 with ⟨rfl, h0⟩ | ⟨g, cap, cur, rfl, _⟩
  · have : l = [] := by cases l with
      | nil => rfl
      | cons a l => simp at h0
    subst this
    exact .inl ⟨rfl, rfl⟩
  · refine .inr (.inl ⟨g, 0, cap, rfl, fun j u hu => ?_⟩)
    have := h.cells (g := g) rfl j u hu
    have e : (⟨g, 0, none⟩ : Addr).add j = ⟨g, 0 + j, none⟩ := by unfold Addr.add; split <;> simp_all
    rw [e] at this; exact this
theorem own_nil (w : World) (base : Nat) : w.ownsRow base 5 1 (.slice none 0 0) 0 [] := ⟨rfl, .inl ⟨rfl, rfl⟩⟩
theorem Fr.grown0 {w w1 wa : World} {ro : Option Nat} (h : Fr (fun _ => False) w w1) (hg : w1.grownBy wa ro) (hr : ∀ k, ro = some k → w.heap.size ≤ k) : Fr (fun _ => False) w wa := Fr.grown h hg (fun k e => .inr (hr k e))
theorem joined_any (x y : Value) (a b : List Nat) (w : World) (hx : Src w x a) (hy : Src w y b) (hl : a.length + b.length ≤ 140737488355328) :
    Calls Try.prog 17 #[x, y] w fun e w' => ∃ v, e = .returned v ∧ Src w' v (a ++ b) ∧ Fr (fun _ => False) w w' := by
  obtain ⟨xo, xc, rfl⟩ := hx.form
  obtain ⟨yo, yc, rfl⟩ := hy.form
  obtain ⟨ao, cap, w1, hr1, ho1, hg1, hat1⟩ := run_app_sl w 27 w.heap.size 0 (.slice none 0 0) _ [] a (own_nil w _) hx (by omega) (Nat.le_refl _)
  have hF1 : Fr (fun _ => False) w w1 := (Fr.refl _ _).grown0 hg1 (fun k e => by cases e)
  obtain ⟨ao2, cap2, w2, hr2, ho2, hg2, hat2⟩ := run_app_sl w1 27 w.heap.size _ _ _ _ b ho1 (hy.fr0 hF1) (by omega) hF1.size
  have hF2 : Fr (fun _ => False) w w2 := hF1.grown0 hg2 (fun k e => by
    rcases hat1 with h | h
    · rw [e] at h; cases h
    · rw [e] at h; cases h; exact Nat.le_refl _)
  have ho3 : w2.ownsRow w.heap.size 5 1 (.slice ao2 (0 + a.length + b.length) cap2) (0 + a.length + b.length) (cellsOf (a ++ b)) := by rw [cellsOf_append]; exact ho2
  have HE := hide (And.intro (own_src ho3) hF2)
  clear ho2 ho3 hF1 hF2 ho1 hg1 hg2 hat1 hat2 hx hy hl
  generalize 0 + a.length = n1 at *
  generalize n1 + b.length = n2 at *
  have HR1 := hide hr1
  have HR2 := hide hr2
  clear hr1 hr2
  go_enter Try.func17, Try.ntmps17
  go_wp2_with (first | (at_builtin; refine wpList_app rfl (.tmp 6) (.tmp 7) 27 27 rfl _ _ _ rfl rfl (unhide HR1) ?_) | (at_builtin; refine wpList_app rfl (.tmp 9) (.tmp 10) 27 27 rfl _ _ _ rfl rfl (unhide HR2) ?_))
  go_ret
  exact ⟨_, rfl, unhide HE⟩
theorem up_split (l : List Nat) (c : Nat) : Up c l = Xn (8 * l.length) c ^^^ Up 0 l := by
  induction l generalizing c with
  | nil => exact (Nat.xor_zero c).symm
  | cons x l ih =>
    show Up (By c x) l = Xn (8 * (l.length + 1)) c ^^^ Up (By 0 x) l
    rw [ih (By c x), ih (By 0 x), By, By, Nat.zero_xor, Xn_xor, Xn_xor, Nat.mul_succ, Nat.add_comm, Xn_add, Nat.xor_assoc]
theorem join_up (a b : List Nat) : Sm (Sm 0 a) b = Sm 0 (a ++ b) := by
  rw [Sm, Sm, Sm, nb_append, Nat.xor_assoc (Up _ _), Nat.xor_self, Nat.xor_zero]
  congr 1
  rw [Up, Up, Up, List.foldl_append]
theorem join_comb (a b : List Nat) : Xn (8 * b.length) (Sm 0 a) ^^^ Sm 0 b = Sm 0 (a ++ b) := by
  rw [← join_up, Sm, Sm, Sm, Nat.xor_assoc (Up _ _), Nat.xor_self, Nat.xor_zero, Nat.zero_xor, ← Nat.xor_assoc]
  congr 1
  rw [up_split (nb b) 4294967295, up_split (nb b) (Up 4294967295 (nb a)), nb_length, ← Nat.xor_assoc, ← Xn_xor, Nat.xor_assoc (Up _ _), Nat.xor_self, Nat.xor_zero]
set_option maxRecDepth 100000 in
theorem cjoins_any (x y : Value) (a b : List Nat) (w : World) (hx : Src w x a) (hy : Src w y b) (hl : a.length + b.length ≤ 140737488355328) :
    Calls Try.prog 7 #[x, y] w fun e w' => e = .returned (.bool true) ∧ Fr (fun _ => False) w w' := by
  have j1 := join_up a b
  have j2 := join_comb a b
  have b1 := Sm_lt 0 a (by decide)
  have b2 := Sm_lt 0 b (by decide)
  have HS := hide (And.intro hx hy)
  have HY := hide hy.form
  have ha : a.length ≤ 140737488355328 := by omega
  have hb : b.length ≤ 140737488355328 := by omega
  have hab : (a ++ b).length ≤ 140737488355328 := by rw [List.length_append]; exact hl
  obtain ⟨yo, yc, rfl⟩ := hy.form
  clear hx hy
  generalize h1 : Sm 0 a = A at *
  generalize h2 : Sm 0 b = B' at *
  generalize h3 : Sm 0 (a ++ b) = C at *
  have HJ := hide (And.intro j1 (And.intro j2 (And.intro h1 (And.intro h2 h3))))
  clear j1 j2 h1 h2 h3
  go_enter Try.func7, Try.ntmps7
  go_wp2_with fail
  refine (joined_any x _ a b w (unhide HS).1 (unhide HS).2 hl).mono ?_
  rintro e w1 ⟨v, rfl, hv, hF⟩
  have H1 := hide (And.intro hv hF)
  clear hv hF
  go_wp2_with fail
  refine (sum_any v (a ++ b) w1 (unhide H1).1 hab).mono ?_
  rintro e w2 ⟨rfl, hF⟩
  rw [(unhide HJ).2.2.2.2]
  have H2 := hide ((unhide H1).2.trans hF (fun _ _ h => h))
  clear hF H1
  go_wp2_with fail
  refine (sum_any x a w2 ((unhide HS).1.fr0 (unhide H2)) ha).mono ?_
  rintro e w3 ⟨rfl, hF⟩
  rw [(unhide HJ).2.2.1]
  have H3 := hide ((unhide H2).trans hF (fun _ _ h => h))
  clear hF H2
  go_wp2_with fail
  refine (sum_any _ b w3 ((unhide HS).2.fr0 (unhide H3)) hb).mono ?_
  rintro e w4 ⟨rfl, hF⟩
  rw [(unhide HJ).2.2.2.1]
  have H4 := hide ((unhide H3).trans hF (fun _ _ h => h))
  clear hF H3
  go_wp2_with fail
  refine (combine_any A B' b.length w4 b1 b2 (by omega)).mono ?_
  rintro e w' ⟨rfl, rfl⟩
  rw [(unhide HJ).2.1]
  go_wp2_with fail
  refine (awake_any _).mono ?_
  rintro e w5 ⟨rfl, hF⟩
  have H5 := hide ((unhide H4).trans hF (fun _ _ h => h))
  clear hF H4
  go_wp2_with fail
  refine (sum_any x a w5 ((unhide HS).1.fr0 (unhide H5)) ha).mono ?_
  rintro e w6 ⟨rfl, hF⟩
  rw [(unhide HJ).2.2.1]
  have H6 := hide ((unhide H5).trans hF (fun _ _ h => h))
  clear hF H5
  go_wp2_with fail
  refine (up_any A _ b w6 b1 ((unhide HS).2.fr0 (unhide H6)) hb).mono ?_
  rintro e w7 ⟨rfl, hF⟩
  rw [(unhide HJ).1]
  have H7 := hide ((unhide H6).trans hF (fun _ _ h => h))
  clear hF H6
  go_wp2_with fail
  go_ret
  exact ⟨rfl, unhide H7⟩
end Go.Proofs.Ytebipmknlgcnaaa
