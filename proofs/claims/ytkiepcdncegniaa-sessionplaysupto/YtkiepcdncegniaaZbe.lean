import Derived.Test.YtkiepcdncegniaaZbd
namespace Go.Proofs.Ytkiepcdncegniaa
open Go.RowKit Go.Maps

theorem SC.one {w : World} {T : Nat → Prop} {q : SC} (h : QOk w T q) (hd : q.d = none) : ∀ v ∈ q.cs, v.oneCell' = true := by
  intro v hv
  rcases List.mem_append.1 hv with h1 | h1
  · exact RQ.one q.r (own_one (h.wt hd).o) v h1
  · simp at h1
    rcases h1 with rfl | rfl <;> rfl
theorem SsAt.look_w {w : World} {d mw ma c : Nat} {cs : List SC} {dn : List Nat} {dv : Value} {T : Nat → Prop} (h : SsAt w d mw ma c cs dn dv T) {i : Nat} {q : SC} (hq : cs[i]? = some q) (hd : q.d = none) :
    ∀ W', Fr (fun _ => False) w W' → (Instr.lookup 83 (.map (some mw)) (.agg #[.int .u32 (c : Nat), .int .u32 ((i + 1 : Nat) : Int)]) true).run Try.prog W' = .ok (.tuple #[.agg q.cs.toArray, .bool true]) W' ∧ (Instr.lookup 83 (.map (some mw)) (.agg #[.int .u32 (c : Nat), .int .u32 ((i + 1 : Nat) : Int)]) false).run Try.prog W' = .ok (.agg q.cs.toArray) W' := fun W' hf => by
  have hl := (List.getElem?_eq_some_iff.1 hq).1
  have hcl := h.len
  have hc := h.c16
  exact (h.fr0 hf).wm.look_yes (by omega) Try.underlying83 (Try.zeroValue89 W') (by omega) (fW_at hq hd)
theorem SsAt.look_wn {w : World} {d mw ma c : Nat} {cs : List SC} {dn : List Nat} {dv : Value} {T : Nat → Prop} (h : SsAt w d mw ma c cs dn dv T) {cl k : Nat} (hcl : cl < 4294967296) (hk : k < 4294967296) (hn : cl = c → fW cs k = none) :
    ∀ W', Fr (fun _ => False) w W' → (Instr.lookup 83 (.map (some mw)) (.agg #[.int .u32 (cl : Nat), .int .u32 (k : Nat)]) true).run Try.prog W' = .ok (.tuple #[.agg #[.int .u32 0, .int .u32 0, .int .u32 0, .int .u8 0, .int .u32 0, .int .u32 0, .int .u32 0, .int .u32 0, .slice none 0 0, .string ⟨#[]⟩, .int .i64 0, .int .i64 0], .bool false]) W' ∧ (Instr.lookup 83 (.map (some mw)) (.agg #[.int .u32 (cl : Nat), .int .u32 (k : Nat)]) false).run Try.prog W' = .ok (.agg #[.int .u32 0, .int .u32 0, .int .u32 0, .int .u8 0, .int .u32 0, .int .u32 0, .int .u32 0, .int .u32 0, .slice none 0 0, .string ⟨#[]⟩, .int .i64 0, .int .i64 0]) W' := fun W' hf =>
  (h.fr0 hf).wm.look_no Try.underlying83 (Try.zeroValue89 W') hcl hk hn
theorem SsAt.look_a {w : World} {d mw ma c : Nat} {cs : List SC} {dn : List Nat} {dv : Value} {T : Nat → Prop} (h : SsAt w d mw ma c cs dn dv T) {i : Nat} {q : SC} {x : AD} (hq : cs[i]? = some q) (hd : q.d = some x) :
    ∀ W', Fr (fun _ => False) w W' → (Instr.lookup 84 (.map (some ma)) (.agg #[.int .u32 (c : Nat), .int .u32 ((i + 1 : Nat) : Int)]) true).run Try.prog W' = .ok (.tuple #[.agg x.a.cs.toArray, .bool true]) W' := fun W' hf => by
  have hl := (List.getElem?_eq_some_iff.1 hq).1
  have hcl := h.len
  have hc := h.c16
  exact ((h.fr0 hf).am.look_yes (by omega) Try.underlying84 (Try.zeroValue44 W') (by omega) (fA_at hq hd)).1
theorem SsAt.look_an {w : World} {d mw ma c : Nat} {cs : List SC} {dn : List Nat} {dv : Value} {T : Nat → Prop} (h : SsAt w d mw ma c cs dn dv T) {cl k : Nat} (hcl : cl < 4294967296) (hk : k < 4294967296) (hn : cl = c → fA cs k = none) :
    ∀ W', Fr (fun _ => False) w W' → (Instr.lookup 84 (.map (some ma)) (.agg #[.int .u32 (cl : Nat), .int .u32 (k : Nat)]) true).run Try.prog W' = .ok (.tuple #[.agg #[.int .u32 0, .int .u32 0, .int .u8 0, .int .u32 0, .int .u32 0, .slice none 0 0, .slice none 0 0], .bool false]) W' := fun W' hf =>
  ((h.fr0 hf).am.look_no Try.underlying84 (Try.zeroValue44 W') hcl hk hn).1
/-- Busy. -/
theorem sbusy_yes (d mw ma c : Nat) (cs : List SC) (dn : List Nat) (dv : Value) (T : Nat → Prop) (w : World) (h : SsAt w d mw ma c cs dn dv T) (i : Nat) (q : SC) (hq : cs[i]? = some q) (hd : q.d = none) :
    Calls Try.prog 15 #[.pointer (some ⟨d, 0, none⟩), .agg #[.int .u32 (c : Nat), .int .u32 ((i + 1 : Nat) : Int)]] w fun e w' => e = .returned (.tuple #[.int .i64 q.la, .int .i64 (q.n : Nat)]) ∧ Fr (fun _ => False) w w' :=
  sbusy_core d mw c (i + 1) q.r.cs _ _ rfl (SC.one (h.qs q (List.mem_of_getElem? hq)) hd) w h.cells.2.1 (fun W' hf => (h.look_w hq hd W' hf).2)
theorem sbusy_no (d mw ma c : Nat) (cs : List SC) (dn : List Nat) (dv : Value) (T : Nat → Prop) (w : World) (h : SsAt w d mw ma c cs dn dv T) (cl k : Nat) (hcl : cl < 4294967296) (hk : k < 4294967296) (hn : cl = c → fW cs k = none) :
    Calls Try.prog 15 #[.pointer (some ⟨d, 0, none⟩), .agg #[.int .u32 (cl : Nat), .int .u32 (k : Nat)]] w fun e w' => e = .returned (.tuple #[.int .i64 0, .int .i64 0]) ∧ Fr (fun _ => False) w w' :=
  sbusy_core d mw cl k [.int .u32 0, .int .u32 0, .int .u32 0, .int .u8 0, .int .u32 0, .int .u32 0, .int .u32 0, .int .u32 0, .slice none 0 0, .string ⟨#[]⟩] _ _ rfl (fun v hv => by simp at hv; rcases hv with rfl | rfl | rfl | rfl | rfl | rfl <;> rfl) w h.cells.2.1 (fun W' hf => (h.look_wn hcl hk hn W' hf).2)
/-- A request that waits, refused once more. -/
theorem SsAt.busy {w w1 w2 : World} {d mw ma c : Nat} {cs : List SC} {dn : List Nat} {dv : Value} {T : Nat → Prop} (h : SsAt w d mw ma c cs dn dv T) (hf : Fr (fun _ => False) w w1) {i : Nat} {q q' : SC} (hq : cs[i]? = some q) (hd : q.d = none) (hr : q'.r = q.r) (hF : q'.F = q.F) (hd' : q'.d = none)
    (hm : MpR w2 mw c (nW cs) (fun j => if j = i + 1 then some q'.v else fW cs j)) (hf2 : Fr (fun g => g = mw) w1 w2) : SsAt w2 d mw ma c (cs.set i q') dn dv T := by
  have h1 := h.fr0 hf
  have hi := (List.getElem?_eq_some_iff.1 hq).1
  have hne := h1.dm
  have hn := nA_same cs i q q' hq hd hd'
  have hL : ∀ {e z n : Nat} {v : Value} {xs : List Value}, e ≠ 86 → LsT w1 T e z v n xs → LsT w2 T e z v n xs := fun he hl =>
    ⟨ownsRow_of_block hl.o (fun g hg => hf2.block g (hl.o.lt g hg).2 (fun e => ((hl.ne h1 he hg).2.1) e)), hl.t, hl.l⟩
  refine ⟨h.c16, by rw [List.length_set]; exact h.len, (hf2.block d (h1.lt d h1.own.1) hne.1).trans h1.blk, ?_, ?_, hL (by decide) h1.dn, fun x hx => ?_, fun j x hx => ?_, h.own, h.ap, fun g hg => Nat.lt_of_lt_of_le (h1.lt g hg) hf2.size⟩
  · rw [hn.2, fW_set cs i q' hi, hd']; exact hm
  · rw [hn.1, fA_set cs i q' hi, hd']
    have e : (fun j => if j = i + 1 then (Option.map (fun x : AD => x.a.v) none) else fA cs j) = fA cs := by
      funext j
      by_cases e : j = i + 1
      · subst e; rw [if_pos rfl, fA_wt hq hd]; rfl
      · rw [if_neg e]
    rw [e]
    exact h1.am.keep (hf2.block ma (h1.lt ma h1.own.2.2) (fun e => h.ap e.symm))
  · rcases List.mem_or_eq_of_mem_set hx with hx | rfl
    · exact ⟨fun e => hL (by decide) ((h1.qs x hx).wt e), fun y e => ⟨hL (by decide) ((h1.qs x hx).an y e).1, hL (by decide) ((h1.qs x hx).an y e).2⟩⟩
    · refine ⟨fun _ => ?_, fun y e => by rw [hd'] at e; cases e⟩
      rw [hr, hF]
      exact hL (by decide) ((h1.qs q (List.mem_of_getElem? hq)).wt hd)
  · by_cases e : i = j
    · subst e
      rw [List.getElem?_set_self hi] at hx
      cases hx
      rw [hr]
      exact h.id i q hq
    · rw [List.getElem?_set_ne e] at hx
      exact h.id j x hx
end Go.Proofs.Ytkiepcdncegniaa
