import Derived.Test.YtficeloegepdkaaPop
namespace Go.Proofs.Ytficeloegepdkaa
open Go.RowKit

theorem wpList_app {P : Program} {w w' : World} {ops : Array Oper} {rest : List Oper} {o : Oper} {a : Act} {Q : Exit → Act → World → Prop} (hgd : o.guard = none) (s x : Operand) (t u : TypeId)
    (ho : o.op = .call { callee := .builtin .append, args := #[s, x], argTypes := #[t, u] }) (vs vx v' : Value) (hs : a.eval s = vs) (hx : a.eval x = vx) (hr : (Builtin.append_ #[t, u] o.type #[vs, vx]).run P w = .ok v' w')
    (h : wpList P ops Q rest (a.put o.dst v') w') : wpList P ops Q (o :: rest) a w := by
  refine wpList_plain hgd fun K hK => ?_
  unfold Oper.wp execOp
  simp only [ho, resolve, invoke, builtin, Sem.run_bind, Sem.run_pure, Result.andThen_ok, List.map_toArray, List.map_cons, List.map_nil, hs, hx, hr]
  exact hK _ _ h
/-- A list of staff of one's own with a mark behind. -/
structure MkS (w : World) (v : Value) (l : List P3) : Prop where
  at_ : ∃ g cap, v = .slice (some ⟨g, 0, none⟩) l.length cap ∧ l.length + 1 ≤ cap ∧ g < w.heap.size ∧ ∀ j u, (pcells (l ++ [⟨77, 77, 77⟩]))[j]? = some u → w.cell? ⟨g, j, none⟩ = some u
theorem MkS.fr {w w' : World} {v : Value} {l : List P3} (h : MkS w v l) (hf : Fr (fun _ => False) w w') : MkS w' v l := by
  obtain ⟨g, cap, e, h1, h2, h3⟩ := h.at_
  exact ⟨g, cap, e, h1, Nat.lt_of_lt_of_le h2 hf.size, fun j u hu => (hf.cell (p := ⟨g, j, none⟩) h2 (fun h => h)).trans (h3 j u hu)⟩
theorem MkS.stf {w : World} {v : Value} {l : List P3} (h : MkS w v l) : Stf w v l := by
  obtain ⟨g, cap, e, h1, h2, h3⟩ := h.at_
  refine .inr ⟨g, 0, cap, e, fun j hj => ?_⟩
  obtain ⟨a, b, c⟩ := pcells_at (l ++ [⟨77, 77, 77⟩]) j (by simp; omega)
  simp only [List.getElem_append_left hj] at a b c
  simp only [Nat.zero_add]
  exact ⟨h3 _ _ a, h3 _ _ b, h3 _ _ c⟩
set_option maxHeartbeats 2000000 in
set_option maxRecDepth 100000 in
theorem staff_any (x : Value) (l : List P3) (w : World) (hx : Stf w x l) (hl : l.length ≤ 1048575) :
    Calls Try.prog 16 #[x] w fun e w' => ∃ v, e = .returned v ∧ MkS w' v l ∧ Fr (fun _ => False) w w' := by
  have HX := hide hx
  obtain ⟨xo, xc, rfl⟩ := hx.form
  clear hx
  go_enter Try.func16, Try.ntmps16
  go_wp2_with fail
  go_loopw [3, 4] (fun av iv wr => ∃ (j : Nat) (ao : Option Addr) (cap : Nat), j ≤ l.length ∧ iv = .int .i64 (j : Nat) ∧ av = .slice ao j cap ∧ wr.ownsRow w.heap.size 40 3 (.slice ao j cap) j (pcells (l.take j)) ∧ Fr (fun _ => False) w wr) (fun _ iv _ => l.length - (intOf iv).toNat)
  case atStart => exact ⟨0, none, 0, Nat.zero_le _, rfl, rfl, World.ownsRow_nil _ _ _ _, Fr.refl _ _⟩
  case round =>
    obtain ⟨j, ao, cap, hj, rfl, rfl, hown, hfr⟩ := hrel
    have hlen : (l.take j).length = j := by simp; omega
    by_cases hlt : j < l.length
    · obtain ⟨g, o, rfl, c0, c1, c2⟩ := ((unhide HX).fr hfr).at_ j hlt
      have hgl : g < wr.heap.size := lt_of_cell c0
      obtain ⟨P, hPe⟩ : ∃ P, l[j] = P := ⟨_, rfl⟩
      rw [hPe] at c0 c1 c2
      have htk : l.take (j + 1) = l.take j ++ [P] := by rw [List.take_add_one, List.getElem?_eq_getElem hlt, hPe]; rfl
      have happ := app_st wr w.heap.size (.slice ao j cap) (l.take j) P (by rw [hlen]; exact hown) hfr.size (by omega)
      rw [hlen, ← htk] at happ
      obtain ⟨ao2, cap2, w2, hr, hown2, hf2⟩ := happ
      have hf3 : Fr (fun _ => False) w w2 := ⟨hf2.os.trans hfr.os, hf2.tape.trans hfr.tape, hf2.output.trans hfr.output, Nat.le_trans hfr.size hf2.size, fun k hk _ => (hf2.block k (Nat.lt_of_lt_of_le hk hfr.size) (fun e => by have := (hown.lt k e).1; omega)).trans (hfr.block k hk (fun h => h))⟩
      have HR := hide hr
      have HO := hide (And.intro hown2 hf3)
      obtain ⟨pa, pr, pw⟩ := P
      simp only at c0 c1 c2
      simp only at HR
      clear hown hfr hPe htk hr hown2 hf2 hf3 hlen
      go_wp2_with (at_builtin; refine wpList_app rfl (.tmp 11) (.tmp 16) 22 22 rfl _ _ _ rfl rfl (unhide HR) ?_)
      go_roundw
      case rel => exact ⟨j + 1, ao2, cap2, hlt, rfl, rfl, (unhide HO).1, (unhide HO).2⟩
      case measure => simp [intOf]; omega
    · obtain rfl : j = l.length := by omega
      have happ := app_st wr w.heap.size (.slice ao l.length cap) l ⟨77, 77, 77⟩ (by rw [List.take_length] at hown; exact hown) hfr.size (by omega)
      obtain ⟨ao2, cap2, w2, hr, hown2, hf2⟩ := happ
      have hf3 : Fr (fun _ => False) w w2 := ⟨hf2.os.trans hfr.os, hf2.tape.trans hfr.tape, hf2.output.trans hfr.output, Nat.le_trans hfr.size hf2.size, fun k hk _ => (hf2.block k (Nat.lt_of_lt_of_le hk hfr.size) (fun e => by have := (hown.lt k e).1; omega)).trans (hfr.block k hk (fun h => h))⟩
      have hg2 : ∃ g2, ao2 = some ⟨g2, 0, none⟩ ∧ l.length + 1 ≤ cap2 ∧ g2 < w2.heap.size ∧ ∀ j u, (pcells (l ++ [⟨77, 77, 77⟩]))[j]? = some u → w2.cell? ⟨g2, j, none⟩ = some u := by
        rcases hown2.2 with ⟨_, e0⟩ | ⟨g2, cap', cur, e, hlt2, hrest⟩
        · omega
        · simp only [Value.slice.injEq] at e
          obtain ⟨rfl, _, rfl⟩ := e
          refine ⟨g2, rfl, ?_, (hown2.lt g2 rfl).2, fun j u hu => ?_⟩
          · exact hrest.2.1
          · have := hown2.cells (g := g2) rfl j u hu
            rw [addr_add, Nat.zero_add] at this
            exact this
      obtain ⟨g2, rfl, hcap, hg2l, hcells⟩ := hg2
      have HR := hide hr
      have HO := hide (And.intro hf3 (And.intro hg2l hcells))
      clear hown hfr hr hown2 hf2 hf3 hlen hg2l hcells
      simp only at HR
      go_wp2_with (at_builtin; refine wpList_app rfl (.tmp 18) (.tmp 20) 22 22 rfl _ _ _ rfl rfl (unhide HR) ?_)
      go_ret
      exact ⟨_, rfl, ⟨g2, cap2, rfl, hcap, (unhide HO).2.1, (unhide HO).2.2⟩, (unhide HO).1⟩
end Go.Proofs.Ytficeloegepdkaa
