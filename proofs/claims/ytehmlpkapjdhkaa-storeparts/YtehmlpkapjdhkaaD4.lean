import Derived.Test.YtehmlpkapjdhkaaD3
import Derived.Test.YtehmlpkapjdhkaaB3
namespace Go.Proofs.Ytehmlpkapjdhkaa
open Go.RowKit

theorem wpList_append_ints {ops : Array Oper} {rest : List Oper} {o : Oper} {a : Act} {Q : Exit → Act → World → Prop} (w : World) (hgd : o.guard = none) (s x : Operand)
    (ho : o.op = .call { callee := .builtin .append, args := #[s, x], argTypes := #[26, 26] })
    (base n : Nat) (v : Value) (xs : List Int) (hs : a.eval s = v) (hown : w.ownsRow base 3 1 v n (xs.map (Value.int .i64)))
    (ad : Option Addr) (m c : Nat) (L : List Int) (hm : L.length = m) (hx : a.eval x = .slice ad m c) (hh : Holds w ad L) (hn : n + m ≤ 1000) (hbase : base ≤ w.heap.size)
    (h : ∀ g' N cap' w', N = n + m → w'.ownsRow base 3 1 (.slice g' N cap') N ((xs ++ L).map (Value.int .i64)) → w.grownBy w' v.ownBlock → wpList Try.prog ops Q rest (a.put o.dst (.slice g' N cap')) w') :
    wpList Try.prog ops Q (o :: rest) a w := by
  refine wpList_plain hgd fun K hK => ?_
  obtain ⟨g', N, cap', w', hN, hr, h1, h2⟩ := run_append_ints w o.type base n v xs hown ad m c L hm hh hn hbase
  unfold Oper.wp execOp
  simp only [ho, resolve, invoke, builtin, Sem.run_bind, Sem.run_pure, Result.andThen_ok, List.map_toArray, List.map_cons, List.map_nil, hs, hx, hr]
  exact hK _ _ (h g' N cap' w' hN h1 h2)

theorem Cells4.two (w : World) (o : Obj) (x0 x1 x2 x3 : Value) (e : Nat) : Cells4 (w.heap.size + 1) x0 x1 x2 x3 ((w.alloc o).alloc (.cells #[x0, x1, x2, x3] e)) := by
  have := Cells4.new (w.alloc o) x0 x1 x2 x3 e
  simpa using this

theorem own_cap {w : World} {base n cap : Nat} {g : Option Addr} {xs : List Value} (h : w.ownsRow base 3 1 (.slice g n cap) n xs) : n ≤ cap := by
  rcases h.2 with ⟨e, rfl⟩ | ⟨g', cap', cur, e, _, _, hn, _⟩
  · omega
  · cases e; exact hn

set_option maxHeartbeats 400000 in
theorem copyOf_any (x : Ob) (sa : Option Addr) (sc : Nat) (w : World) (hx : Holds w sa x.links) (hl : x.links.length ≤ 1000) :
    Calls Try.prog 23 #[x.val sa sc] w fun e w' => ∃ ta tc, e = .returned (x.val ta tc) ∧ Holds w' ta x.links ∧ Below w.heap.size w w' ∧ (∀ b off, ta = some ⟨b, off, none⟩ → w.heap.size ≤ b) ∧ x.links.length ≤ tc := by
  have hB2 := below_alloc2 w (.cells #[.int .i64 x.id, .int .i64 x.kind, .slice sa x.links.length sc, .string x.text] 28) (.cells #[.int .i64 0, .int .i64 0, .slice none 0 0, .string { data := #[] }] 28)
  have hx2 := hx.below hB2
  have C1 := (Cells4.new w (.int .i64 x.id) (.int .i64 x.kind) (.slice sa x.links.length sc) (.string x.text) 28).below (below_alloc _ (.cells #[.int .i64 0, .int .i64 0, .slice none 0 0, .string { data := #[] }] 28)) (by simp)
  have C2 := Cells4.two w (.cells #[.int .i64 x.id, .int .i64 x.kind, .slice sa x.links.length sc, .string x.text] 28) (.int .i64 0) (.int .i64 0) (.slice none 0 0) (.string { data := #[] }) 28
  have hsz : w.heap.size + 2 ≤ ((w.alloc (.cells #[.int .i64 x.id, .int .i64 x.kind, .slice sa x.links.length sc, .string x.text] 28)).alloc (.cells #[.int .i64 0, .int .i64 0, .slice none 0 0, .string { data := #[] }] 28)).heap.size := by simp
  go_enter Try.func23, Try.ntmps23
  go_wp2_with (at_builtin; refine wpList_append_ints _ rfl (.const (.slice none 0 0)) (.tmp 4) rfl (w.heap.size + 2) 0 (.slice none 0 0) [] rfl (World.ownsRow_nil _ _ _ _) sa x.links.length sc x.links rfl rfl hx2 (by omega) hsz ?_)
  intro g N cap w1 hN ho hg
  generalize (w.alloc (.cells #[.int .i64 x.id, .int .i64 x.kind, .slice sa x.links.length sc, .string x.text] 28)).alloc (.cells #[.int .i64 0, .int .i64 0, .slice none 0 0, .string { data := #[] }] 28) = W at *
  have hN' : N = x.links.length := by omega
  subst hN'
  have hBW : Below W.heap.size W w1 := ⟨hg.os, hg.tape, hg.output, hg.size, fun k hk => hg.block k hk (by simp [Value.ownBlock])⟩
  have D1 := C1.below hBW C1.lt
  have D2 := C2.below hBW C2.lt
  have hB1 := hB2.trans (hBW.mono hB2.size)
  have hcap := own_cap ho
  obtain ⟨g', cap', e', hh, hab⟩ := own_shape (L := [] ++ x.links) ho (by simp)
  cases e'
  rw [List.nil_append] at hh
  obtain ⟨c0, c1, c2, c3, f0, f1, f2, f3, cl⟩ := D1
  obtain ⟨d0, d1, d2, d3, e0, e1, e2, e3, dl⟩ := D2
  clear ho hg hBW C1 C2 hN
  have hge : ∀ b off, g = some ⟨b, off, none⟩ → w.heap.size + 2 ≤ b := hab
  have hH := holds_set4 (B := w.heap.size + 1) (x0 := .int .i64 x.id) (x1 := .int .i64 x.kind) (x2 := .slice g x.links.length cap) (x3 := .string x.text) (hh.set (B := w.heap.size) (i := 2) (fun b off e => by have := hge b off e; omega) (.slice g x.links.length cap)) (fun b off e _ => by have := hge b off e; omega)
  have hBB := below_set4 (B := w.heap.size + 1) (x0 := .int .i64 x.id) (x1 := .int .i64 x.kind) (x2 := .slice g x.links.length cap) (x3 := .string x.text) (hB1.setCell (p := ⟨w.heap.size, 2, none⟩) (Nat.le_refl _) (.slice g x.links.length cap)) (Nat.le_succ _)
  have HH : Hid (_ ∧ _ ∧ ∀ b off, g = some ⟨b, off, none⟩ → w.heap.size ≤ b) := ⟨hH, hBB, fun b off e => by have := hge b off e; omega⟩
  clear hH hBB hge hab hh hB1
  go_wp2
  refine bodyPost_ret (v := x.val g cap) (by simp [results, Try.results23, go_sem, d0, d1, d2, d3]) rfl ?_
  exact ⟨g, cap, rfl, HH.out.1, HH.out.2.1, HH.out.2.2, hcap⟩

theorem eachC_all {l : List Ob} : ∀ (m : List Ob) (last : Int), eachC l last m = 0 → ∀ x ∈ m, x.err = 0 ∧ last < x.id ∧ linkS l x.kind 0 x.links = 0 := by
  intro m
  induction m with
  | nil => intro _ _ x hx; cases hx
  | cons y ys ih =>
    intro last h x hx
    rw [eachC] at h
    split at h
    · omega
    · rename_i h0
      have h1 := chk1_zero (Decidable.not_not.1 h0)
      rcases List.mem_cons.1 hx with rfl | hx
      · exact h1
      · have h2 := ih _ h x hx
        exact ⟨h2.1, by omega, h2.2.2⟩
theorem checkS_zero {l : List Ob} (h : checkS l = 0) : l.length ≤ 40 ∧ eachC l 0 l = 0 := by
  unfold checkS at h
  split at h
  · omega
  · exact ⟨by omega, h⟩
theorem checkS_err {l : List Ob} (h : checkS l = 0) : ∀ x ∈ l, x.err = 0 := fun x hx => (eachC_all l 0 (checkS_zero h).2 x hx).1

set_option maxHeartbeats 400000 in
theorem find_err (a : Option Addr) (c : Nat) (l : List Ob) (id : Int) (w : World) (h : HoldsS w a l) (hl : l.length ≤ 9223372036854775807) (he : checkS l ≠ 0) :
    Calls Try.prog 9 #[.slice a l.length c, .int .i64 id] w fun e w' => e = .returned (.tuple #[zeroO, .int .i64 (checkS l)]) ∧ Below w.heap.size w w' := by
  have he' : (checkS l != 0) = true := by simpa using he
  have C := Cells4.new w (.int .i64 0) (.int .i64 0) (.slice none 0 0) (.string { data := #[] }) 28
  have hB := below_alloc w (.cells #[.int .i64 0, .int .i64 0, .slice none 0 0, .string { data := #[] }] 28)
  go_enter Try.func9, Try.ntmps9
  go_wp2_with fail
  refine (checkS_any a c l _ (h.below hB) hl).mono ?_
  rintro e w1 ⟨rfl, hb⟩
  have C1 := C.below hb C.lt
  have hB1 := below_set4 (B := w.heap.size) (x0 := .int .i64 0) (x1 := .int .i64 0) (x2 := .slice none 0 0) (x3 := .string { data := #[] }) (hB.trans (hb.mono hB.size)) (Nat.le_refl _)
  obtain ⟨c0, c1, c2, c3, f0, f1, f2, f3, cl⟩ := C1
  clear hb C hB
  go_wp2
  refine bodyPost_ret (v := .tuple #[zeroO, .int .i64 (checkS l)]) (by simp [results, Try.results9, go_sem, c0, c1, c2, c3]) rfl ?_
  exact ⟨rfl, hB1⟩

set_option maxHeartbeats 400000 in
theorem find_none (a : Option Addr) (c : Nat) (l : List Ob) (id : Int) (w : World) (h : HoldsS w a l) (he : checkS l = 0) (hp : placeI l id = -1) :
    Calls Try.prog 9 #[.slice a l.length c, .int .i64 id] w fun e w' => e = .returned (.tuple #[zeroO, .int .i64 5]) ∧ Below w.heap.size w w' := by
  have hl : l.length ≤ 9223372036854775807 := by have := (checkS_zero he).1; omega
  have HE : Hid (checkS l = 0) := he
  have HP : Hid (placeI l id = -1) := hp
  have C := Cells4.new w (.int .i64 0) (.int .i64 0) (.slice none 0 0) (.string { data := #[] }) 28
  have hB := below_alloc w (.cells #[.int .i64 0, .int .i64 0, .slice none 0 0, .string { data := #[] }] 28)
  clear he hp
  go_enter Try.func9, Try.ntmps9
  go_wp2_with fail
  refine (checkS_any a c l _ (h.below hB) hl).mono ?_
  rintro e w1 ⟨rfl, hb⟩
  rw [HE.out]
  have C1 := C.below hb C.lt
  have hB1 := hB.trans (hb.mono hB.size)
  clear hb C hB
  go_wp2_with fail
  refine (place_any a c l id _ (h.below hB1) hl).mono ?_
  rintro e w2 ⟨rfl, hb⟩
  rw [HP.out]
  have C2 := C1.below hb C1.lt
  have hB2 := below_set4 (B := w.heap.size) (x0 := .int .i64 0) (x1 := .int .i64 0) (x2 := .slice none 0 0) (x3 := .string { data := #[] }) (hB1.trans (hb.mono hB1.size)) (Nat.le_refl _)
  obtain ⟨c0, c1, c2, c3, f0, f1, f2, f3, cl⟩ := C2
  clear hb C1 hB1
  go_wp2
  refine bodyPost_ret (v := .tuple #[zeroO, .int .i64 5]) (by simp [results, Try.results9, go_sem, c0, c1, c2, c3]) rfl ?_
  exact ⟨rfl, hB2⟩

set_option maxHeartbeats 400000 in
theorem find_ok (a : Option Addr) (c : Nat) (l : List Ob) (id : Int) (i : Nat) (w : World) (h : HoldsS w a l) (he : checkS l = 0) (hp : placeI l id = i) (hi : i < l.length) :
    Calls Try.prog 9 #[.slice a l.length c, .int .i64 id] w fun e w' => ∃ ta tc, e = .returned (.tuple #[l[i].val ta tc, .int .i64 0]) ∧ Holds w' ta l[i].links ∧ Below w.heap.size w w' := by
  have hl : l.length ≤ 9223372036854775807 := by have := (checkS_zero he).1; omega
  have hl4 : l[i].links.length ≤ 4 := (checkE_zero (checkS_err he l[i] (List.getElem_mem hi))).2.2.1
  have HE : Hid (checkS l = 0) := he
  have HP : Hid (placeI l id = i) := hp
  have C := Cells4.new w (.int .i64 0) (.int .i64 0) (.slice none 0 0) (.string { data := #[] }) 28
  have hB := below_alloc w (.cells #[.int .i64 0, .int .i64 0, .slice none 0 0, .string { data := #[] }] 28)
  clear he hp
  go_enter Try.func9, Try.ntmps9
  go_wp2_with fail
  refine (checkS_any a c l _ (h.below hB) hl).mono ?_
  rintro e w1 ⟨rfl, hb⟩
  rw [HE.out]
  have C1 := C.below hb C.lt
  have hB1 := hB.trans (hb.mono hB.size)
  clear hb C hB
  go_wp2_with fail
  refine (place_any a c l id _ (h.below hB1) hl).mono ?_
  rintro e w2 ⟨rfl, hb⟩
  rw [HP.out]
  have C2 := C1.below hb C1.lt
  have hB2 := hB1.trans (hb.mono hB1.size)
  clear hb C1 hB1
  obtain ⟨b, off, rfl, hbl, hc⟩ := (h.below hB2) i hi
  obtain ⟨sa, sc, x0, x1, x2, x3, x4, x5⟩ := hc i hi
  have hi' : (i : Int) < (l.length : Int) := by omega
  clear hc
  go_wp2_with fail
  refine (copyOf_any l[i] sa sc _ x4 (by omega)).mono ?_
  rintro e w3 ⟨ta, tc, rfl, hh, hb, hge, _⟩
  have C3 := C2.below hb C2.lt
  have cl2 := C2.lt
  have hB3 := below_set4 (B := w.heap.size) (x0 := .int .i64 l[i].id) (x1 := .int .i64 l[i].kind) (x2 := .slice ta l[i].links.length tc) (x3 := .string l[i].text) (hB2.trans (hb.mono hB2.size)) (Nat.le_refl _)
  have hH3 := holds_set4 (B := w.heap.size) (x0 := .int .i64 l[i].id) (x1 := .int .i64 l[i].kind) (x2 := .slice ta l[i].links.length tc) (x3 := .string l[i].text) hh (fun b' off' e _ => by have := hge b' off' e; omega)
  obtain ⟨c0, c1, c2, c3, f0, f1, f2, f3, cl⟩ := C3
  have HH : Hid (_ ∧ _) := ⟨hH3, hB3⟩
  clear hb C2 hB2 hB3 hH3 hh x0 x1 x2 x3 x4 hge
  go_wp2
  refine bodyPost_ret (v := .tuple #[l[i].val ta tc, .int .i64 0]) (by simp [results, Try.results9, go_sem, c0, c1, c2, c3]) rfl ?_
  exact ⟨ta, tc, rfl, HH.out.1, HH.out.2⟩
end Go.Proofs.Ytehmlpkapjdhkaa
