import Derived.Test.YtehmlpkapjdhkaaD8
import Derived.OrdersHeld
namespace Go.Proofs.Ytehmlpkapjdhkaa
open Go.RowKit

section
variable {P : Program} {ops : Array Oper} {Q : Exit → Act → World → Prop} {md : Region.Mode} {S : World → Prop} {ex : Nat → Bool}

/-- Orders with a condition that the operations of 'ex' (a last store) need not keep. -/
def wpAnyE (P : Program) (md : Region.Mode) (ops : Array Oper) (Q : Exit → Act → World → Prop) (S : World → Prop) (ex : Nat → Bool) : Nat → Array Bool → Act → World → Prop
  | 0, l, a, w => Region.ready md ops l = [] ∧ Q .normal a w
  | n + 1, l, a, w => (Region.ready md ops l = [] → Q .normal a w) ∧
      ∀ k ∈ Region.ready md ops l, wpOp P ops Q k (fun a' w' => (ex k = false → S w') ∧ wpAnyE P md ops Q S ex n (l.setIfInBounds k true) a' w') a w

theorem wpAnyE.plain : ∀ {n : Nat} {l : Array Bool} {a : Act} {w : World}, wpAnyE P md ops Q S ex n l a w → wpAny P md ops Q n l a w
  | 0, _, _, _, h => h
  | _ + 1, _, _, _, h => ⟨h.1, fun k hk => wpOp_mono (fun _ _ h' => h'.2.plain) (h.2 k hk)⟩

/-- what every operation that could come ahead of number i keeps to: it is apart from it, and no exempted one. -/
def Clear (md : Region.Mode) (ops : Array Oper) (ex : Nat → Bool) (i : Nat) (oi : Oper) (l : Array Bool) : Prop :=
  ∀ k ok, ops[k]? = some ok → k ≠ i → l.getD k true = false → (∀ e ∈ ok.after, Region.binds md e = true → e.on ≠ i) → oi.apart ops ok = true ∧ ex k = false

theorem Clear.set {i j : Nat} {oi : Oper} {l : Array Bool} (h : Clear md ops ex i oi l) (hj : l.getD j true = false) : Clear md ops ex i oi (l.setIfInBounds j true) := by
  intro k ok hk hki hun hno
  by_cases e : j = k
  · exact h k ok hk hki (e ▸ hj) hno
  · exact h k ok hk hki (by rwa [getD_set_ne true e] at hun) hno

theorem not_waiting {i j : Nat} {oj : Oper} {l : Array Bool} (hi : i ∈ Region.ready md ops l) (hoj : ops[j]? = some oj) (hj : j ∈ Region.ready md ops l) : ∀ e ∈ oj.after, Region.binds md e = true → e.on ≠ i := by
  intro e he hb heq
  obtain ⟨_, o, ho, hall⟩ := mem_ready.1 hj
  rw [hoj] at ho
  cases ho
  have q1 := hall e he hb
  have q0 := (mem_ready.1 hi).1
  rw [heq] at q1
  rcases Nat.lt_or_ge i l.size with c | c
  · simp [c] at q0 q1
    exact absurd (q0.symm.trans q1) (by simp)
  · simp [Array.getElem?_eq_none c] at q1

theorem wpAnyE.first {i : Nat} {oi : Oper} {v : Value} (hi : ops[i]? = some oi) (hsel : ∀ (j : Nat) (o : Oper) cs b, ops[j]? = some o → o.op ≠ .select cs b)
    (hQ : ∀ c a w, Q (.panic c) (a.put oi.dst v) w → Q (.panic c) a w) (n : Nat) :
    ∀ (l : Array Bool) (a : Act) (w : World), Clear md ops ex i oi l → i ∈ Region.ready md ops l → YieldsIf P ops S oi v a → S w →
      wpAnyE P md ops Q S ex n (l.setIfInBounds i true) (a.put oi.dst v) w → wpAnyE P md ops Q S ex (n + 1) l a w := by
  induction n with
  | zero =>
    intro l a w _ hr hy hS H
    refine ⟨fun h => (by rw [h] at hr; cases hr), fun j hj => ?_⟩
    by_cases hji : j = i
    · subst hji
      exact hy.wpOp hi hS ⟨fun _ => hS, H⟩
    · have := ready_mono hj hji
      rw [H.1] at this
      cases this
  | succ n ih =>
    intro l a w hc hr hy hS H
    refine ⟨fun h => (by rw [h] at hr; cases hr), fun j hj => ?_⟩
    by_cases hji : j = i
    · subst hji
      exact hy.wpOp hi hS ⟨fun _ => hS, H⟩
    · obtain ⟨hun, oj, hoj, _⟩ := mem_ready.1 hj
      obtain ⟨hap, hexj⟩ := hc j oj hoj hji hun (not_waiting hr hoj hj)
      have hstep := wpOp_putIf hoj hap (fun cs b => hsel i oi cs b hi) (fun cs b => hsel j oj cs b hoj) hQ hy (H.2 j (ready_mono hj hji))
      refine wpOp_mono (fun a' w' q => ⟨q.2.1, ih _ a' w' (hc.set hun) (ready_mono hr (Ne.symm hji)) q.1 (q.2.1 hexj) ?_⟩) hstep
      rw [Array.setIfInBounds_comm _ _ hji]
      exact q.2.2

/-- the exempted ones wait for number i, said by a Bool. -/
def waits (md : Region.Mode) (ops : Array Oper) (ex : Nat → Bool) (i : Nat) : Bool :=
  (List.range ops.size).all fun k => !(ex k) || (match ops[k]? with | some o => o.after.any fun e => Region.binds md e && e.on == i | none => true)

theorem wpAnyE.take {i : Nat} {oi : Oper} {v : Value} {fuel : Nat} {l : Array Bool} {a : Act} {w : World} (hi : ops[i]? = some oi)
    (hs : Region.noSelect ops = true) (hf : Region.free md ops l i = true) (hr : (Region.ready md ops l).contains i = true) (hx : waits md ops ex i = true)
    (hQ : ∀ c a w, Q (.panic c) (a.put oi.dst v) w → Q (.panic c) a w) (hy : YieldsIf P ops S oi v a) (hS : S w)
    (h : wpAnyE P md ops Q S ex fuel (l.setIfInBounds i true) (a.put oi.dst v) w) : wpAnyE P md ops Q S ex (fuel + 1) l a w := by
  refine wpAnyE.first hi (Region.noSelect_spec hs) hQ fuel l a w ?_ (by simpa using hr) hy hS h
  intro k ok hk hki hun hno
  refine ⟨Region.free_spec hi hf k ok hk hki hun hno, ?_⟩
  cases hxk : ex k with
  | false => rfl
  | true =>
    exfalso
    have hlt : k < ops.size := by
      rcases Nat.lt_or_ge k ops.size with c | c
      · exact c
      · rw [Array.getElem?_eq_none c] at hk; cases hk
    have := List.all_eq_true.1 hx k (List.mem_range.2 hlt)
    simp only [hxk, hk, Bool.not_true, Bool.false_or] at this
    obtain ⟨e, he, hb⟩ := Array.any_eq_true'.1 this
    simp only [Bool.and_eq_true, beq_iff_eq] at hb
    exact hno e he hb.1 hb.2

theorem wpAnyE.one {i : Nat} {o : Oper} {fuel : Nat} {l : Array Bool} {a : Act} {w : World} (hr : Region.ready md ops l = [i]) (ho : ops[i]? = some o)
    (h : ∀ K : Act → World → Prop, (∀ a w, (ex i = false → S w) → wpAnyE P md ops Q S ex fuel (l.setIfInBounds i true) a w → K a w) → if Region.wanted o (yielded ops a.tmps) = true then Oper.wp P o a w K Q else K (a.put o.dst undef) w) :
    wpAnyE P md ops Q S ex (fuel + 1) l a w := by
  refine ⟨fun e => (by rw [hr] at e; cases e), fun k hk => ?_⟩
  rw [hr] at hk
  obtain rfl := List.mem_singleton.1 hk
  exact wpOp_step ho fun K hK => h K fun a w h1 h2 => hK a w ⟨h1, h2⟩

theorem wpAnyE.two {i j : Nat} {o u : Oper} {fuel : Nat} {l : Array Bool} {a : Act} {w : World} (hr : Region.ready md ops l = [i, j]) (ho : ops[i]? = some o) (hu : ops[j]? = some u)
    (h : ∀ K : Act → World → Prop, (∀ a w, (ex i = false → S w) → wpAnyE P md ops Q S ex fuel (l.setIfInBounds i true) a w → K a w) → if Region.wanted o (yielded ops a.tmps) = true then Oper.wp P o a w K Q else K (a.put o.dst undef) w)
    (h' : ∀ K : Act → World → Prop, (∀ a w, (ex j = false → S w) → wpAnyE P md ops Q S ex fuel (l.setIfInBounds j true) a w → K a w) → if Region.wanted u (yielded ops a.tmps) = true then Oper.wp P u a w K Q else K (a.put u.dst undef) w) :
    wpAnyE P md ops Q S ex (fuel + 1) l a w := by
  refine ⟨fun e => (by rw [hr] at e; cases e), fun k hk => ?_⟩
  rw [hr] at hk
  rcases List.mem_cons.1 hk with rfl | hk
  · exact wpOp_step ho fun K hK => h K fun a w h1 h2 => hK a w ⟨h1, h2⟩
  · obtain rfl := List.mem_singleton.1 hk
    exact wpOp_step hu fun K hK => h' K fun a w h1 h2 => hK a w ⟨h1, h2⟩

theorem wpAnyE.done {fuel : Nat} {l : Array Bool} {a : Act} {w : World} (hr : Region.ready md ops l = []) (h : Q .normal a w) : wpAnyE P md ops Q S ex fuel l a w := by
  cases fuel with
  | zero => exact ⟨hr, h⟩
  | succ n => exact ⟨fun _ => h, by rw [hr]; simp⟩

theorem wp_region_E {id : Nat} {a : Act} {w : World} (S : World → Prop) (ex : Nat → Bool) (hm : P.follows .mixedOrders = true) (hS : S w.drew)
    (h : S w.drew → wpAnyE P .any ops Q S ex ops.size (Array.replicate ops.size false) a w.drew) : (Code.region id ops true).wp P Q a w :=
  wp_region_any hm (h hS).plain
end
end Go.Proofs.Ytehmlpkapjdhkaa
