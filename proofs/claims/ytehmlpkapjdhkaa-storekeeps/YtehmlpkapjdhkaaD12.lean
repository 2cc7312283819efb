import Derived.Test.YtehmlpkapjdhkaaD11
namespace Go.Proofs.Ytehmlpkapjdhkaa
open Go.RowKit

/-- what 'take' says of an id that is there. -/
def hitE : Bool → Int
  | true => 0
  | false => 6

set_option maxHeartbeats 1000000 in
theorem take_new (z p : Nat) (v : Value) (rs : List Pl) (L : List Ob) (HL : Hid (rs.map Pl.x = L)) (x : Ob) (sa : Option Addr) (sc : Nat) (w : World) (SH : Shelf w z p v rs) (hn : rs.length ≤ 1000) (hx : Holds w sa x.links) (hxl : x.links.length ≤ 1000) (hp : placeI L x.id = -1) :
    Calls Try.prog 26 #[.pointer (some ⟨p, 0, none⟩), x.val sa sc] w fun e w' => ∃ v' rs', e = .returned (.int .i64 0) ∧ rs'.map Pl.x = L.take (belowN L x.id) ++ [x] ++ L.drop (belowN L x.id) ∧ Shelf w' z p v' rs' ∧ Below z w w' := by
  obtain ⟨a, c, rfl, hHS, hcl⟩ := SH.reads
  rw [HL.out] at hHS SH
  have HLl : Hid (L.length = rs.length) := by rw [← HL.out, List.length_map]; exact rfl
  have hLn : L.length ≤ 1000 := by rw [HLl.out]; exact hn
  have hA := below_alloc w (.cells #[.int .i64 x.id, .int .i64 x.kind, .slice sa x.links.length sc, .string x.text] 28)
  have SA := SH.below hA
  have C := Cells4.new w (.int .i64 x.id) (.int .i64 x.kind) (.slice sa x.links.length sc) (.string x.text) 28
  have hH := hx.below hA
  have hS := hHS.below hA
  have hgB : ∀ g, (Value.slice a L.length c).ownBlock = some g → g < w.heap.size := fun g e => (SH.own.lt g e).2
  have hpB := SH.lt
  go_enter Try.func26, Try.ntmps26
  go_wp2_with fail
  generalize w.alloc (.cells #[.int .i64 x.id, .int .i64 x.kind, .slice sa x.links.length sc, .string x.text] 28) = W at *
  obtain ⟨B, hB⟩ : ∃ B, B = w.heap.size := ⟨_, rfl⟩
  rw [← hB] at C hgB hpB hA ⊢
  have SD := SA.below (Below.refl W.heap.size W).drew
  have hHD := hH.below (Below.refl W.heap.size W).drew
  have hSD := hS.below (Below.refl W.heap.size W).drew
  have CD := C.below (Below.refl W.heap.size W).drew C.lt
  have HBD := hA.trans ((Below.refl W.heap.size W).drew.mono (by rw [hB]; exact hA.size))
  have HBw : Hid (B = w.heap.size) := hB
  clear hB
  clear SA hH C hA hS hHS hx SH
  refine wp_region_E (fun W => W.cell? ⟨p, 0, none⟩ = some (.slice a L.length c) ∧ Cells4 B (.int .i64 x.id) (.int .i64 x.kind) (.slice sa x.links.length sc) (.string x.text) W) (fun _ => false) (by kernel_rfl) ⟨SD.cell, CD⟩ (fun hS => ?_)
  refine wpAnyE.take (i := 0) (v := ?_) rfl (by kernel_rfl) (by kernel_rfl) (by kernel_rfl) (by kernel_rfl) (fun _ _ _ h => h) (Or.inl ⟨by rfl, ?_⟩) (by assumption) ?_
  rotate_left
  · intro w hSw; obtain ⟨z, zb⟩ := hSw; have z0 := zb.c0; have z1 := zb.c1; have z2 := zb.c2; have z3 := zb.c3; clear zb; go_simp; with_reducible rfl
  try simp only [Act.put, List.getElem_toArray, List.getElem_cons_zero, List.setIfInBounds_toArray, List.set_cons_zero, List.set_cons_succ]
  refine wpAnyE.take (i := 1) (v := ?_) rfl (by kernel_rfl) (by kernel_rfl) (by kernel_rfl) (by kernel_rfl) (fun _ _ _ h => h) (Or.inl ⟨by rfl, ?_⟩) (by assumption) ?_
  rotate_left
  · intro w hSw; obtain ⟨z, zb⟩ := hSw; have z0 := zb.c0; have z1 := zb.c1; have z2 := zb.c2; have z3 := zb.c3; clear zb; go_simp; with_reducible rfl
  try simp only [Act.put, List.getElem_toArray, List.getElem_cons_succ, List.getElem_cons_zero, List.setIfInBounds_toArray, List.set_cons_zero, List.set_cons_succ]
  refine wpAnyE.take (i := 2) (v := ?_) rfl (by kernel_rfl) (by kernel_rfl) (by kernel_rfl) (by kernel_rfl) (fun _ _ _ h => h) (Or.inl ⟨by rfl, ?_⟩) (by assumption) ?_
  rotate_left
  · intro w hSw; obtain ⟨z, zb⟩ := hSw; have z0 := zb.c0; have z1 := zb.c1; have z2 := zb.c2; have z3 := zb.c3; clear zb; go_simp; with_reducible rfl
  try simp only [Act.put, List.getElem_toArray, List.getElem_cons_succ, List.getElem_cons_zero, List.setIfInBounds_toArray, List.set_cons_zero, List.set_cons_succ]
  refine wpAnyE.take (i := 3) (v := ?_) rfl (by kernel_rfl) (by kernel_rfl) (by kernel_rfl) (by kernel_rfl) (fun _ _ _ h => h) (Or.inl ⟨by rfl, ?_⟩) (by assumption) ?_
  rotate_left
  · intro w hSw; obtain ⟨z, zb⟩ := hSw; have z0 := zb.c0; have z1 := zb.c1; have z2 := zb.c2; have z3 := zb.c3; clear zb; go_simp; with_reducible rfl
  try simp only [Act.put, List.getElem_toArray, List.getElem_cons_succ, List.getElem_cons_zero, List.setIfInBounds_toArray, List.set_cons_zero, List.set_cons_succ]
  refine wpAnyE.take (i := 4) (v := ?_) rfl (by kernel_rfl) (by kernel_rfl) (by kernel_rfl) (by kernel_rfl) (fun _ _ _ h => h) (Or.inl ⟨by rfl, ?_⟩) (by assumption) ?_
  rotate_left
  · intro w hSw; obtain ⟨z, zb⟩ := hSw; have z0 := zb.c0; have z1 := zb.c1; have z2 := zb.c2; have z3 := zb.c3; clear zb; go_simp; with_reducible rfl
  try simp only [Act.put, List.getElem_toArray, List.getElem_cons_succ, List.getElem_cons_zero, List.setIfInBounds_toArray, List.set_cons_zero, List.set_cons_succ]
  refine wpAnyE.take (i := 5) (v := ?_) rfl (by kernel_rfl) (by kernel_rfl) (by kernel_rfl) (by kernel_rfl) (fun _ _ _ h => h) (Or.inl ⟨by rfl, ?_⟩) (by assumption) ?_
  rotate_left
  · intro w hSw; obtain ⟨z, zb⟩ := hSw; have z0 := zb.c0; have z1 := zb.c1; have z2 := zb.c2; have z3 := zb.c3; clear zb; go_simp; with_reducible rfl
  try simp only [Act.put, List.getElem_toArray, List.getElem_cons_succ, List.getElem_cons_zero, List.setIfInBounds_toArray, List.set_cons_zero, List.set_cons_succ]
  generalize W.drew = W0 at *
  refine wpAnyE.one (i := 6) (by kernel_rfl) rfl (fun K hK => ?_)
  go_simp
  refine (place_any a c L x.id W0 hSD (by omega)).mono ?_
  rintro e W1 ⟨rfl, hb1⟩
  have hS1 : W1.cell? ⟨p, 0, none⟩ = some (.slice a L.length c) ∧ Cells4 B (.int .i64 x.id) (.int .i64 x.kind) (.slice sa x.links.length sc) (.string x.text) W1 := ⟨(SD.below hb1).cell, CD.below hb1 CD.lt⟩
  refine hK _ _ (fun _ => hS1) ?_
  clear hK K
  try simp only [Act.put, List.getElem_toArray, List.getElem_cons_succ, List.getElem_cons_zero, List.setIfInBounds_toArray, List.set_cons_zero, List.set_cons_succ]
  clear hS
  refine wpAnyE.one (i := 7) (by kernel_rfl) rfl (fun K hK => ?_)
  go_simp
  refine hK _ _ (fun _ => hS1) ?_
  clear hK K
  try simp only [Act.put, List.getElem_toArray, List.getElem_cons_succ, List.getElem_cons_zero, List.setIfInBounds_toArray, List.set_cons_zero, List.set_cons_succ]
  refine wpAnyE.done (by kernel_rfl) ?_
  have S1 := SD.below hb1
  have hH1 := hHD.below hb1
  have hL1 := hSD.below hb1
  have HB1 := HBD.trans (hb1.mono (by have := CD.lt; omega))
  have C1 := hS1.2
  clear SD hHD hSD HBD CD hb1 hS1
  go_wp2_with fail
  have SD := S1.below (Below.refl W1.heap.size W1).drew
  have hHD := hH1.below (Below.refl W1.heap.size W1).drew
  have hSD := hL1.below (Below.refl W1.heap.size W1).drew
  have CD := C1.below (Below.refl W1.heap.size W1).drew C1.lt
  have HBD := HB1.trans ((Below.refl W1.heap.size W1).drew.mono (by have := C1.lt; omega))
  clear S1 hH1 hL1 C1 HB1
  refine wp_region_E (fun W => W.cell? ⟨p, 0, none⟩ = some (.slice a L.length c) ∧ Cells4 B (.int .i64 x.id) (.int .i64 x.kind) (.slice sa x.links.length sc) (.string x.text) W) (fun k => k == 18) (by kernel_rfl) ⟨SD.cell, CD⟩ (fun hS => ?_)
  refine wpAnyE.take (i := 0) (v := ?_) rfl (by kernel_rfl) (by kernel_rfl) (by kernel_rfl) (by kernel_rfl) (fun _ _ _ h => h) (Or.inl ⟨by rfl, ?_⟩) (by assumption) ?_
  rotate_left
  · intro w hSw; obtain ⟨z, zb⟩ := hSw; have z0 := zb.c0; have z1 := zb.c1; have z2 := zb.c2; have z3 := zb.c3; clear zb; go_simp; with_reducible rfl
  try simp only [Act.put, List.getElem_toArray, List.getElem_cons_zero, List.setIfInBounds_toArray, List.set_cons_zero, List.set_cons_succ]
  refine wpAnyE.take (i := 1) (v := ?_) rfl (by kernel_rfl) (by kernel_rfl) (by kernel_rfl) (by kernel_rfl) (fun _ _ _ h => h) (Or.inl ⟨by rfl, ?_⟩) (by assumption) ?_
  rotate_left
  · intro w hSw; obtain ⟨z, zb⟩ := hSw; have z0 := zb.c0; have z1 := zb.c1; have z2 := zb.c2; have z3 := zb.c3; clear zb; go_simp; with_reducible rfl
  try simp only [Act.put, List.getElem_toArray, List.getElem_cons_succ, List.getElem_cons_zero, List.setIfInBounds_toArray, List.set_cons_zero, List.set_cons_succ]
  refine wpAnyE.take (i := 2) (v := ?_) rfl (by kernel_rfl) (by kernel_rfl) (by kernel_rfl) (by kernel_rfl) (fun _ _ _ h => h) (Or.inl ⟨by rfl, ?_⟩) (by assumption) ?_
  rotate_left
  · intro w hSw; obtain ⟨z, zb⟩ := hSw; have z0 := zb.c0; have z1 := zb.c1; have z2 := zb.c2; have z3 := zb.c3; clear zb; go_simp; with_reducible rfl
  try simp only [Act.put, List.getElem_toArray, List.getElem_cons_succ, List.getElem_cons_zero, List.setIfInBounds_toArray, List.set_cons_zero, List.set_cons_succ]
  refine wpAnyE.take (i := 3) (v := ?_) rfl (by kernel_rfl) (by kernel_rfl) (by kernel_rfl) (by kernel_rfl) (fun _ _ _ h => h) (Or.inl ⟨by rfl, ?_⟩) (by assumption) ?_
  rotate_left
  · intro w hSw; obtain ⟨z, zb⟩ := hSw; have z0 := zb.c0; have z1 := zb.c1; have z2 := zb.c2; have z3 := zb.c3; clear zb; go_simp; with_reducible rfl
  try simp only [Act.put, List.getElem_toArray, List.getElem_cons_succ, List.getElem_cons_zero, List.setIfInBounds_toArray, List.set_cons_zero, List.set_cons_succ]
  refine wpAnyE.take (i := 4) (v := ?_) rfl (by kernel_rfl) (by kernel_rfl) (by kernel_rfl) (by kernel_rfl) (fun _ _ _ h => h) (Or.inl ⟨by rfl, ?_⟩) (by assumption) ?_
  rotate_left
  · intro w hSw; obtain ⟨z, zb⟩ := hSw; have z0 := zb.c0; have z1 := zb.c1; have z2 := zb.c2; have z3 := zb.c3; clear zb; go_simp; with_reducible rfl
  try simp only [Act.put, List.getElem_toArray, List.getElem_cons_succ, List.getElem_cons_zero, List.setIfInBounds_toArray, List.set_cons_zero, List.set_cons_succ]
  refine wpAnyE.take (i := 5) (v := ?_) rfl (by kernel_rfl) (by kernel_rfl) (by kernel_rfl) (by kernel_rfl) (fun _ _ _ h => h) (Or.inl ⟨by rfl, ?_⟩) (by assumption) ?_
  rotate_left
  · intro w hSw; obtain ⟨z, zb⟩ := hSw; have z0 := zb.c0; have z1 := zb.c1; have z2 := zb.c2; have z3 := zb.c3; clear zb; go_simp; with_reducible rfl
  try simp only [Act.put, List.getElem_toArray, List.getElem_cons_succ, List.getElem_cons_zero, List.setIfInBounds_toArray, List.set_cons_zero, List.set_cons_succ]
  refine wpAnyE.take (i := 6) (v := ?_) rfl (by kernel_rfl) (by kernel_rfl) (by kernel_rfl) (by kernel_rfl) (fun _ _ _ h => h) (Or.inl ⟨by rfl, ?_⟩) (by assumption) ?_
  rotate_left
  · intro w hSw; obtain ⟨z, zb⟩ := hSw; have z0 := zb.c0; have z1 := zb.c1; have z2 := zb.c2; have z3 := zb.c3; clear zb; go_simp; with_reducible rfl
  try simp only [Act.put, List.getElem_toArray, List.getElem_cons_succ, List.getElem_cons_zero, List.setIfInBounds_toArray, List.set_cons_zero, List.set_cons_succ]
  refine wpAnyE.take (i := 7) (v := ?_) rfl (by kernel_rfl) (by kernel_rfl) (by kernel_rfl) (by kernel_rfl) (fun _ _ _ h => h) (Or.inl ⟨by rfl, ?_⟩) (by assumption) ?_
  rotate_left
  · intro w hSw; obtain ⟨z, zb⟩ := hSw; have z0 := zb.c0; have z1 := zb.c1; have z2 := zb.c2; have z3 := zb.c3; clear zb; go_simp; with_reducible rfl
  try simp only [Act.put, List.getElem_toArray, List.getElem_cons_succ, List.getElem_cons_zero, List.setIfInBounds_toArray, List.set_cons_zero, List.set_cons_succ]
  refine wpAnyE.take (i := 8) (v := ?_) rfl (by kernel_rfl) (by kernel_rfl) (by kernel_rfl) (by kernel_rfl) (fun _ _ _ h => h) (Or.inl ⟨by rfl, ?_⟩) (by assumption) ?_
  rotate_left
  · intro w hSw; obtain ⟨z, zb⟩ := hSw; have z0 := zb.c0; have z1 := zb.c1; have z2 := zb.c2; have z3 := zb.c3; clear zb; go_simp; with_reducible rfl
  try simp only [Act.put, List.getElem_toArray, List.getElem_cons_succ, List.getElem_cons_zero, List.setIfInBounds_toArray, List.set_cons_zero, List.set_cons_succ]
  refine wpAnyE.take (i := 9) (v := ?_) rfl (by kernel_rfl) (by kernel_rfl) (by kernel_rfl) (by kernel_rfl) (fun _ _ _ h => h) (Or.inl ⟨by rfl, ?_⟩) (by assumption) ?_
  rotate_left
  · intro w hSw; obtain ⟨z, zb⟩ := hSw; have z0 := zb.c0; have z1 := zb.c1; have z2 := zb.c2; have z3 := zb.c3; clear zb; go_simp; with_reducible rfl
  try simp only [Act.put, List.getElem_toArray, List.getElem_cons_succ, List.getElem_cons_zero, List.setIfInBounds_toArray, List.set_cons_zero, List.set_cons_succ]
  refine wpAnyE.take (i := 10) (v := ?_) rfl (by kernel_rfl) (by kernel_rfl) (by kernel_rfl) (by kernel_rfl) (fun _ _ _ h => h) (Or.inl ⟨by rfl, ?_⟩) (by assumption) ?_
  rotate_left
  · intro w hSw; obtain ⟨z, zb⟩ := hSw; have z0 := zb.c0; have z1 := zb.c1; have z2 := zb.c2; have z3 := zb.c3; clear zb; go_simp; with_reducible rfl
  try simp only [Act.put, List.getElem_toArray, List.getElem_cons_succ, List.getElem_cons_zero, List.setIfInBounds_toArray, List.set_cons_zero, List.set_cons_succ]
  refine wpAnyE.take (i := 12) (v := ?_) rfl (by kernel_rfl) (by kernel_rfl) (by kernel_rfl) (by kernel_rfl) (fun _ _ _ h => h) (Or.inl ⟨by rfl, ?_⟩) (by assumption) ?_
  rotate_left
  · intro w hSw; obtain ⟨z, zb⟩ := hSw; have z0 := zb.c0; have z1 := zb.c1; have z2 := zb.c2; have z3 := zb.c3; clear zb; go_simp; with_reducible rfl
  try simp only [Act.put, List.getElem_toArray, List.getElem_cons_succ, List.getElem_cons_zero, List.setIfInBounds_toArray, List.set_cons_zero, List.set_cons_succ]
  generalize W1.drew = W2 at *
  refine wpAnyE.one (i := 11) (by kernel_rfl) rfl (fun K hK => ?_)
  go_simp
  refine (countBelow_any a c L x.id W2 hSD hLn).mono ?_
  rintro e W3 ⟨rfl, hb3⟩
  have hS3 : W3.cell? ⟨p, 0, none⟩ = some (.slice a L.length c) ∧ Cells4 B (.int .i64 x.id) (.int .i64 x.kind) (.slice sa x.links.length sc) (.string x.text) W3 := ⟨(SD.below hb3).cell, CD.below hb3 CD.lt⟩
  refine hK _ _ (fun _ => hS3) ?_
  clear hK K
  try simp only [Act.put, List.getElem_toArray, List.getElem_cons_succ, List.getElem_cons_zero, List.setIfInBounds_toArray, List.set_cons_zero, List.set_cons_succ]
  refine wpAnyE.one (i := 13) (by kernel_rfl) rfl (fun K hK => ?_)
  go_simp
  refine (copyOf_any x sa sc W3 (hHD.below hb3) hxl).mono ?_
  rintro e W4 ⟨ta, tc, rfl, hta, hb4, hfr, htc⟩
  have hS4 : W4.cell? ⟨p, 0, none⟩ = some (.slice a L.length c) ∧ Cells4 B (.int .i64 x.id) (.int .i64 x.kind) (.slice sa x.links.length sc) (.string x.text) W4 := ⟨((SD.below hb3).below hb4).cell, hS3.2.below hb4 hS3.2.lt⟩
  refine hK _ _ (fun _ => hS4) ?_
  clear hK K
  try simp only [Act.put, List.getElem_toArray, List.getElem_cons_succ, List.getElem_cons_zero, List.setIfInBounds_toArray, List.set_cons_zero, List.set_cons_succ]
  refine wpAnyE.one (i := 14) (by kernel_rfl) rfl (fun K hK => ?_)
  go_simp
  obtain ⟨W5, hW5⟩ : ∃ W5, W5 = W4.alloc (.cells #[.int .i64 x.id, .int .i64 x.kind, .slice ta x.links.length tc, .string x.text] 28) := ⟨_, rfl⟩
  have hb5 : Below W4.heap.size W4 W5 := by rw [hW5]; exact below_alloc _ _
  have hv5 : W5.heap[W4.heap.size]? = some (.cells #[.int .i64 x.id, .int .i64 x.kind, .slice ta x.links.length tc, .string x.text] 28) := by rw [hW5]; exact heap_alloc_new W4 _
  rw [← hW5]
  clear hW5
  have hS5 : W5.cell? ⟨p, 0, none⟩ = some (.slice a L.length c) ∧ Cells4 B (.int .i64 x.id) (.int .i64 x.kind) (.slice sa x.links.length sc) (.string x.text) W5 := ⟨(((SD.below hb3).below hb4).below hb5).cell, hS4.2.below hb5 hS4.2.lt⟩
  refine hK _ _ (fun _ => hS5) ?_
  clear hK K
  try simp only [Act.put, List.getElem_toArray, List.getElem_cons_succ, List.getElem_cons_zero, List.setIfInBounds_toArray, List.set_cons_zero, List.set_cons_succ]
  refine wpAnyE.one (i := 15) (by kernel_rfl) rfl (fun K hK => ?_)
  go_simp
  have SH5 := ((SD.below hb3).below hb4).below hb5
  have hle : belowN L x.id ≤ rs.length := by rw [← HLl.out]; exact belowN_le L x.id
  have hW4 := hb4.size
  have hW3 := hb3.size
  refine (insert_any z rs.length (belowN L x.id) W4.heap.size _ (rowC rs) _ W5 hle hn SH5.own hv5 rfl (fun e => by have q1 := hgB _ e; have q2 := CD.lt; omega) (rowC_one rs) (by intro u hu; simp only [List.mem_cons, List.not_mem_nil, or_false] at hu; rcases hu with rfl | rfl | rfl | rfl <;> rfl) (by have := SH5.lt; have := SH5.zp; omega)).mono ?_
  rintro e W6 ⟨v', rfl, ho6, hg6, hf6⟩
  obtain ⟨g', m', c', rfl⟩ := own_slice ho6
  have hne6 : some p ≠ (Value.slice a L.length c).ownBlock := fun e => SH5.sep e.symm
  have hp6 := (hg6.block _ SH5.lt hne6).trans SH5.blk
  have hc6 : W6.cell? ⟨p, 0, none⟩ = some (.slice a L.length c) := by simp [World.cell?, hp6]
  have hz6 : W6.frozen? ⟨p, 0, none⟩ = false := by simp [World.frozen?, hp6]
  have hS6 : W6.cell? ⟨p, 0, none⟩ = some (.slice a L.length c) ∧ Cells4 B (.int .i64 x.id) (.int .i64 x.kind) (.slice sa x.links.length sc) (.string x.text) W6 := ⟨hc6, hS5.2.grown hg6 (fun e => by have := hgB B e; omega)⟩
  refine hK _ _ (fun _ => hS6) ?_
  clear hK K
  try simp only [Act.put, List.getElem_toArray, List.getElem_cons_succ, List.getElem_cons_zero, List.setIfInBounds_toArray, List.set_cons_zero, List.set_cons_succ]
  refine wpAnyE.one (i := 16) (by kernel_rfl) rfl (fun K hK => ?_)
  go_simp
  refine hK _ _ (fun _ => hS6) ?_
  clear hK K
  try simp only [Act.put, List.getElem_toArray, List.getElem_cons_succ, List.getElem_cons_zero, List.setIfInBounds_toArray, List.set_cons_zero, List.set_cons_succ]
  refine wpAnyE.one (i := 17) (by kernel_rfl) rfl (fun K hK => ?_)
  go_simp
  refine hK _ _ (fun _ => hS6) ?_
  clear hK K
  try simp only [Act.put, List.getElem_toArray, List.getElem_cons_succ, List.getElem_cons_zero, List.setIfInBounds_toArray, List.set_cons_zero, List.set_cons_succ]
  clear hS3 hS4 hS5 hS6 hS
  refine wpAnyE.one (i := 18) (by kernel_rfl) rfl (fun K hK => ?_)
  go_simp
  refine hK _ _ (fun h => by cases h) ?_
  clear hK K
  try simp only [Act.put, List.getElem_toArray, List.getElem_cons_succ, List.getElem_cons_zero, List.setIfInBounds_toArray, List.set_cons_zero, List.set_cons_succ]
  refine wpAnyE.done (by kernel_rfl) ?_
  have hr1 : (rowC rs).take (belowN L x.id * 4) ++ #[.int .i64 x.id, .int .i64 x.kind, .slice ta x.links.length tc, .string x.text].toList ++ (rowC rs).drop (belowN L x.id * 4) = rowC (rs.take (belowN L x.id) ++ [⟨x, ta, tc⟩] ++ rs.drop (belowN L x.id)) := by
    rw [rowC_append, rowC_append, rowC_take rs _ hle, rowC_drop rs _ hle]; rfl
  rw [hr1] at ho6
  have NX := SD.next (rs' := rs.take (belowN L x.id) ++ [⟨x, ta, tc⟩] ++ rs.drop (belowN L x.id)) (r := ⟨x, ta, tc⟩) (w1 := W5) (hb3.trans ((hb4.mono hb3.size).trans (hb5.mono (by omega)))) hg6 (by rw [show (rs.take (belowN L x.id) ++ [(⟨x, ta, tc⟩ : Pl)] ++ rs.drop (belowN L x.id)).length = rs.length + 1 by simp; omega]; exact ho6) hf6
    (by intro s hs; simp only [List.mem_append, List.mem_singleton] at hs; rcases hs with (q | q) | q; exact .inl (List.mem_of_mem_take q); exact .inr q; exact .inl (List.mem_of_mem_drop q)) ⟨hxl, htc⟩ (hta.below hb5) (fun b off e => by have := hfr b off e; omega)
  have hBB : Below z w _ := (HBD.mono (by have := SH5.zp; omega)).trans NX.2
  have hM : (rs.take (belowN L x.id) ++ [(⟨x, ta, tc⟩ : Pl)] ++ rs.drop (belowN L x.id)).map Pl.x = L.take (belowN L x.id) ++ [x] ++ L.drop (belowN L x.id) := by
    rw [← HL.out]; simp [List.map_take, List.map_drop]
  have HN : Hid (_ ∧ _ ∧ _) := ⟨hM, NX.1, hBB⟩
  clear NX hBB hM hr1 ho6 hf6 hg6 hc6 hz6 hne6 hp6 SH5 SD CD hHD hSD HBD hb3 hb4 hb5 hv5 hta hfr htc hp
  generalize W6.setCell ⟨p, 0, none⟩ (.slice g' m' c') = W7 at *
  go_wp2
  go_ret
  exact ⟨_, _, rfl, HN.out⟩

set_option maxHeartbeats 1000000 in
theorem take_hit (z p : Nat) (v : Value) (rs : List Pl) (L : List Ob) (HL : Hid (rs.map Pl.x = L)) (x : Ob) (sa : Option Addr) (sc : Nat) (w : World) (SH : Shelf w z p v rs) (hn : rs.length ≤ 1000) (hx : Holds w sa x.links) (i : Nat) (hp : placeI L x.id = i) (hi : i < L.length) :
    Calls Try.prog 26 #[.pointer (some ⟨p, 0, none⟩), x.val sa sc] w fun e w' => e = .returned (.int .i64 (hitE (sameO L[i].id L[i].kind L[i].links L[i].text x.id x.kind x.links x.text))) ∧ (∃ v', Shelf w' z p v' rs) ∧ Below w.heap.size w w' := by
  obtain ⟨a, c, rfl, hHS, hcl⟩ := SH.reads
  rw [HL.out] at hHS SH
  have HLl : Hid (L.length = rs.length) := by rw [← HL.out, List.length_map]; exact rfl
  have hLn : L.length ≤ 1000 := by rw [HLl.out]; exact hn
  have hA := below_alloc w (.cells #[.int .i64 x.id, .int .i64 x.kind, .slice sa x.links.length sc, .string x.text] 28)
  have SA := SH.below hA
  have C := Cells4.new w (.int .i64 x.id) (.int .i64 x.kind) (.slice sa x.links.length sc) (.string x.text) 28
  have hH := hx.below hA
  have hS := hHS.below hA
  have hgB : ∀ g, (Value.slice a L.length c).ownBlock = some g → g < w.heap.size := fun g e => (SH.own.lt g e).2
  have hpB := SH.lt
  go_enter Try.func26, Try.ntmps26
  go_wp2_with fail
  generalize w.alloc (.cells #[.int .i64 x.id, .int .i64 x.kind, .slice sa x.links.length sc, .string x.text] 28) = W at *
  obtain ⟨B, hB⟩ : ∃ B, B = w.heap.size := ⟨_, rfl⟩
  rw [← hB] at C hgB hpB hA ⊢
  have SD := SA.below (Below.refl W.heap.size W).drew
  have hHD := hH.below (Below.refl W.heap.size W).drew
  have hSD := hS.below (Below.refl W.heap.size W).drew
  have CD := C.below (Below.refl W.heap.size W).drew C.lt
  have HBD := hA.trans ((Below.refl W.heap.size W).drew.mono (by rw [hB]; exact hA.size))
  have HBw : Hid (B = w.heap.size) := hB
  clear hB
  clear SA hH C hA hS hHS hx SH
  refine wp_region_E (fun W => W.cell? ⟨p, 0, none⟩ = some (.slice a L.length c) ∧ Cells4 B (.int .i64 x.id) (.int .i64 x.kind) (.slice sa x.links.length sc) (.string x.text) W) (fun _ => false) (by kernel_rfl) ⟨SD.cell, CD⟩ (fun hS => ?_)
  refine wpAnyE.take (i := 0) (v := ?_) rfl (by kernel_rfl) (by kernel_rfl) (by kernel_rfl) (by kernel_rfl) (fun _ _ _ h => h) (Or.inl ⟨by rfl, ?_⟩) (by assumption) ?_
  rotate_left
  · intro w hSw; obtain ⟨z, zb⟩ := hSw; have z0 := zb.c0; have z1 := zb.c1; have z2 := zb.c2; have z3 := zb.c3; clear zb; go_simp; with_reducible rfl
  try simp only [Act.put, List.getElem_toArray, List.getElem_cons_zero, List.setIfInBounds_toArray, List.set_cons_zero, List.set_cons_succ]
  refine wpAnyE.take (i := 1) (v := ?_) rfl (by kernel_rfl) (by kernel_rfl) (by kernel_rfl) (by kernel_rfl) (fun _ _ _ h => h) (Or.inl ⟨by rfl, ?_⟩) (by assumption) ?_
  rotate_left
  · intro w hSw; obtain ⟨z, zb⟩ := hSw; have z0 := zb.c0; have z1 := zb.c1; have z2 := zb.c2; have z3 := zb.c3; clear zb; go_simp; with_reducible rfl
  try simp only [Act.put, List.getElem_toArray, List.getElem_cons_succ, List.getElem_cons_zero, List.setIfInBounds_toArray, List.set_cons_zero, List.set_cons_succ]
  refine wpAnyE.take (i := 2) (v := ?_) rfl (by kernel_rfl) (by kernel_rfl) (by kernel_rfl) (by kernel_rfl) (fun _ _ _ h => h) (Or.inl ⟨by rfl, ?_⟩) (by assumption) ?_
  rotate_left
  · intro w hSw; obtain ⟨z, zb⟩ := hSw; have z0 := zb.c0; have z1 := zb.c1; have z2 := zb.c2; have z3 := zb.c3; clear zb; go_simp; with_reducible rfl
  try simp only [Act.put, List.getElem_toArray, List.getElem_cons_succ, List.getElem_cons_zero, List.setIfInBounds_toArray, List.set_cons_zero, List.set_cons_succ]
  refine wpAnyE.take (i := 3) (v := ?_) rfl (by kernel_rfl) (by kernel_rfl) (by kernel_rfl) (by kernel_rfl) (fun _ _ _ h => h) (Or.inl ⟨by rfl, ?_⟩) (by assumption) ?_
  rotate_left
  · intro w hSw; obtain ⟨z, zb⟩ := hSw; have z0 := zb.c0; have z1 := zb.c1; have z2 := zb.c2; have z3 := zb.c3; clear zb; go_simp; with_reducible rfl
  try simp only [Act.put, List.getElem_toArray, List.getElem_cons_succ, List.getElem_cons_zero, List.setIfInBounds_toArray, List.set_cons_zero, List.set_cons_succ]
  refine wpAnyE.take (i := 4) (v := ?_) rfl (by kernel_rfl) (by kernel_rfl) (by kernel_rfl) (by kernel_rfl) (fun _ _ _ h => h) (Or.inl ⟨by rfl, ?_⟩) (by assumption) ?_
  rotate_left
  · intro w hSw; obtain ⟨z, zb⟩ := hSw; have z0 := zb.c0; have z1 := zb.c1; have z2 := zb.c2; have z3 := zb.c3; clear zb; go_simp; with_reducible rfl
  try simp only [Act.put, List.getElem_toArray, List.getElem_cons_succ, List.getElem_cons_zero, List.setIfInBounds_toArray, List.set_cons_zero, List.set_cons_succ]
  refine wpAnyE.take (i := 5) (v := ?_) rfl (by kernel_rfl) (by kernel_rfl) (by kernel_rfl) (by kernel_rfl) (fun _ _ _ h => h) (Or.inl ⟨by rfl, ?_⟩) (by assumption) ?_
  rotate_left
  · intro w hSw; obtain ⟨z, zb⟩ := hSw; have z0 := zb.c0; have z1 := zb.c1; have z2 := zb.c2; have z3 := zb.c3; clear zb; go_simp; with_reducible rfl
  try simp only [Act.put, List.getElem_toArray, List.getElem_cons_succ, List.getElem_cons_zero, List.setIfInBounds_toArray, List.set_cons_zero, List.set_cons_succ]
  generalize W.drew = W0 at *
  refine wpAnyE.one (i := 6) (by kernel_rfl) rfl (fun K hK => ?_)
  go_simp
  refine (place_any a c L x.id W0 hSD (by omega)).mono ?_
  rintro e W1 ⟨rfl, hb1⟩
  have hS1 : W1.cell? ⟨p, 0, none⟩ = some (.slice a L.length c) ∧ Cells4 B (.int .i64 x.id) (.int .i64 x.kind) (.slice sa x.links.length sc) (.string x.text) W1 := ⟨(SD.below hb1).cell, CD.below hb1 CD.lt⟩
  refine hK _ _ (fun _ => hS1) ?_
  clear hK K
  try simp only [Act.put, List.getElem_toArray, List.getElem_cons_succ, List.getElem_cons_zero, List.setIfInBounds_toArray, List.set_cons_zero, List.set_cons_succ]
  clear hS
  refine wpAnyE.one (i := 7) (by kernel_rfl) rfl (fun K hK => ?_)
  go_simp
  refine hK _ _ (fun _ => hS1) ?_
  clear hK K
  try simp only [Act.put, List.getElem_toArray, List.getElem_cons_succ, List.getElem_cons_zero, List.setIfInBounds_toArray, List.set_cons_zero, List.set_cons_succ]
  refine wpAnyE.done (by kernel_rfl) ?_
  have S1 := SD.below hb1
  have hH1 := hHD.below hb1
  have hL1 := hSD.below hb1
  have HB1 := HBD.trans (hb1.mono (by have := CD.lt; omega))
  have C1 := hS1.2
  clear SD hHD hSD HBD CD hb1 hS1
  obtain ⟨b, off, rfl, hbl, hcc⟩ := hL1 i hi
  obtain ⟨ya, yc, y0, y1, y2, y3, y4, y5⟩ := hcc i hi
  clear hcc
  obtain ⟨y, hy⟩ : ∃ y, y = L[i] := ⟨_, rfl⟩
  rw [← hy] at y0 y1 y2 y3 y4 y5
  have HY : Hid (y = L[i]) := hy
  clear hy
  have hi0 : (0 : Int) ≤ (i : Int) := by omega
  have HI : (i : Int) < (L.length : Int) := by omega
  go_wp2_with fail
  have SD := S1.below (Below.refl W1.heap.size W1).drew
  have hHD := hH1.below (Below.refl W1.heap.size W1).drew
  have CD := C1.below (Below.refl W1.heap.size W1).drew C1.lt
  have hYD := y4.below (Below.refl W1.heap.size W1).drew
  have HBD := HB1.trans ((Below.refl W1.heap.size W1).drew.mono (by have := C1.lt; omega))
  clear S1 hH1 C1 HB1 hL1
  refine wp_region_E (fun W => W.cell? ⟨p, 0, none⟩ = some (.slice (some ⟨b, off, none⟩) L.length c) ∧ Cells4 B (.int .i64 x.id) (.int .i64 x.kind) (.slice sa x.links.length sc) (.string x.text) W ∧ W.cell? ⟨b, off + i * 4, none⟩ = some (.int .i64 y.id) ∧ W.cell? ⟨b, off + i * 4 + 1, none⟩ = some (.int .i64 y.kind) ∧ W.cell? ⟨b, off + i * 4 + 2, none⟩ = some (.slice ya y.links.length yc) ∧ W.cell? ⟨b, off + i * 4 + 3, none⟩ = some (.string y.text)) (fun _ => false) (by kernel_rfl) ⟨SD.cell, CD, y0, y1, y2, y3⟩ (fun hS => ?_)
  refine wpAnyE.take (i := 0) (v := ?_) rfl (by kernel_rfl) (by kernel_rfl) (by kernel_rfl) (by kernel_rfl) (fun _ _ _ h => h) (Or.inl ⟨by rfl, ?_⟩) (by assumption) ?_
  rotate_left
  · intro w hSw; obtain ⟨z, zb, t0, t1, t2, t3⟩ := hSw; have z0 := zb.c0; have z1 := zb.c1; have z2 := zb.c2; have z3 := zb.c3; clear zb; go_simp; with_reducible rfl
  try simp only [Act.put, List.getElem_toArray, List.getElem_cons_zero, List.setIfInBounds_toArray, List.set_cons_zero, List.set_cons_succ]
  refine wpAnyE.take (i := 1) (v := ?_) rfl (by kernel_rfl) (by kernel_rfl) (by kernel_rfl) (by kernel_rfl) (fun _ _ _ h => h) (Or.inl ⟨by rfl, ?_⟩) (by assumption) ?_
  rotate_left
  · intro w hSw; obtain ⟨z, zb, t0, t1, t2, t3⟩ := hSw; have z0 := zb.c0; have z1 := zb.c1; have z2 := zb.c2; have z3 := zb.c3; clear zb; go_simp; with_reducible rfl
  try simp only [Act.put, List.getElem_toArray, List.getElem_cons_succ, List.getElem_cons_zero, List.setIfInBounds_toArray, List.set_cons_zero, List.set_cons_succ]
  refine wpAnyE.take (i := 2) (v := ?_) rfl (by kernel_rfl) (by kernel_rfl) (by kernel_rfl) (by kernel_rfl) (fun _ _ _ h => h) (Or.inl ⟨by rfl, ?_⟩) (by assumption) ?_
  rotate_left
  · intro w hSw; obtain ⟨z, zb, t0, t1, t2, t3⟩ := hSw; have z0 := zb.c0; have z1 := zb.c1; have z2 := zb.c2; have z3 := zb.c3; clear zb; go_simp; with_reducible rfl
  try simp only [Act.put, List.getElem_toArray, List.getElem_cons_succ, List.getElem_cons_zero, List.setIfInBounds_toArray, List.set_cons_zero, List.set_cons_succ]
  refine wpAnyE.take (i := 3) (v := ?_) rfl (by kernel_rfl) (by kernel_rfl) (by kernel_rfl) (by kernel_rfl) (fun _ _ _ h => h) (Or.inl ⟨by rfl, ?_⟩) (by assumption) ?_
  rotate_left
  · intro w hSw; obtain ⟨z, zb, t0, t1, t2, t3⟩ := hSw; have z0 := zb.c0; have z1 := zb.c1; have z2 := zb.c2; have z3 := zb.c3; clear zb; go_simp; with_reducible rfl
  try simp only [Act.put, List.getElem_toArray, List.getElem_cons_succ, List.getElem_cons_zero, List.setIfInBounds_toArray, List.set_cons_zero, List.set_cons_succ]
  refine wpAnyE.take (i := 4) (v := ?_) rfl (by kernel_rfl) (by kernel_rfl) (by kernel_rfl) (by kernel_rfl) (fun _ _ _ h => h) (Or.inl ⟨by rfl, ?_⟩) (by assumption) ?_
  rotate_left
  · intro w hSw; obtain ⟨z, zb, t0, t1, t2, t3⟩ := hSw; have z0 := zb.c0; have z1 := zb.c1; have z2 := zb.c2; have z3 := zb.c3; clear zb; go_simp; with_reducible rfl
  try simp only [Act.put, List.getElem_toArray, List.getElem_cons_succ, List.getElem_cons_zero, List.setIfInBounds_toArray, List.set_cons_zero, List.set_cons_succ]
  refine wpAnyE.take (i := 5) (v := ?_) rfl (by kernel_rfl) (by kernel_rfl) (by kernel_rfl) (by kernel_rfl) (fun _ _ _ h => h) (Or.inl ⟨by rfl, ?_⟩) (by assumption) ?_
  rotate_left
  · intro w hSw; obtain ⟨z, zb, t0, t1, t2, t3⟩ := hSw; have z0 := zb.c0; have z1 := zb.c1; have z2 := zb.c2; have z3 := zb.c3; clear zb; go_simp; with_reducible rfl
  try simp only [Act.put, List.getElem_toArray, List.getElem_cons_succ, List.getElem_cons_zero, List.setIfInBounds_toArray, List.set_cons_zero, List.set_cons_succ]
  refine wpAnyE.take (i := 6) (v := ?_) rfl (by kernel_rfl) (by kernel_rfl) (by kernel_rfl) (by kernel_rfl) (fun _ _ _ h => h) (Or.inl ⟨by rfl, ?_⟩) (by assumption) ?_
  rotate_left
  · intro w hSw; obtain ⟨z, zb, t0, t1, t2, t3⟩ := hSw; have z0 := zb.c0; have z1 := zb.c1; have z2 := zb.c2; have z3 := zb.c3; clear zb; go_simp; with_reducible rfl
  try simp only [Act.put, List.getElem_toArray, List.getElem_cons_succ, List.getElem_cons_zero, List.setIfInBounds_toArray, List.set_cons_zero, List.set_cons_succ]
  refine wpAnyE.take (i := 7) (v := ?_) rfl (by kernel_rfl) (by kernel_rfl) (by kernel_rfl) (by kernel_rfl) (fun _ _ _ h => h) (Or.inl ⟨by rfl, ?_⟩) (by assumption) ?_
  rotate_left
  · intro w hSw; obtain ⟨z, zb, t0, t1, t2, t3⟩ := hSw; have z0 := zb.c0; have z1 := zb.c1; have z2 := zb.c2; have z3 := zb.c3; clear zb; go_simp; with_reducible rfl
  try simp only [Act.put, List.getElem_toArray, List.getElem_cons_succ, List.getElem_cons_zero, List.setIfInBounds_toArray, List.set_cons_zero, List.set_cons_succ]
  have hL2 : b < W1.drew.heap.size := hbl
  generalize W1.drew = W2 at *
  refine wpAnyE.one (i := 8) (by kernel_rfl) rfl (fun K hK => ?_)
  go_simp
  obtain ⟨_, _, s0, s1, s2, s3⟩ := hS
  refine (same_any y x ya yc sa sc W2 hYD hHD y5).mono ?_
  rintro e W3 ⟨rfl, hb3⟩
  have SH3 := SD.below hb3
  have HB3 := HBD.trans (hb3.mono (by have := CD.lt; omega))
  have hS3 : W3.cell? ⟨p, 0, none⟩ = some (.slice (some ⟨b, off, none⟩) L.length c) ∧ Cells4 B (.int .i64 x.id) (.int .i64 x.kind) (.slice sa x.links.length sc) (.string x.text) W3 ∧ W3.cell? ⟨b, off + i * 4, none⟩ = some (.int .i64 y.id) ∧ W3.cell? ⟨b, off + i * 4 + 1, none⟩ = some (.int .i64 y.kind) ∧ W3.cell? ⟨b, off + i * 4 + 2, none⟩ = some (.slice ya y.links.length yc) ∧ W3.cell? ⟨b, off + i * 4 + 3, none⟩ = some (.string y.text) := by
    have hbl' : b < W2.heap.size := hL2
    exact ⟨SH3.cell, CD.below hb3 CD.lt, (hb3.cell (p := ⟨b, off + i * 4, none⟩) hbl').trans s0, (hb3.cell (p := ⟨b, off + i * 4 + 1, none⟩) hbl').trans s1, (hb3.cell (p := ⟨b, off + i * 4 + 2, none⟩) hbl').trans s2, (hb3.cell (p := ⟨b, off + i * 4 + 3, none⟩) hbl').trans s3⟩
  refine hK _ _ (fun _ => hS3) ?_
  clear hK K
  try simp only [Act.put, List.getElem_toArray, List.getElem_cons_succ, List.getElem_cons_zero, List.setIfInBounds_toArray, List.set_cons_zero, List.set_cons_succ]
  have HN : Hid (Shelf W3 z p (.slice (some ⟨b, off, none⟩) L.length c) rs ∧ Below w.heap.size w W3) := ⟨SH3, by rw [← HBw.out]; exact HB3⟩
  refine wpAnyE.one (i := 9) (by kernel_rfl) rfl (fun K hK => ?_)
  go_simp
  refine hK _ _ (fun _ => hS3) ?_
  clear hK K
  try simp only [Act.put, List.getElem_toArray, List.getElem_cons_succ, List.getElem_cons_zero, List.setIfInBounds_toArray, List.set_cons_zero, List.set_cons_succ]
  refine wpAnyE.done (by kernel_rfl) ?_
  clear SD CD hHD hYD HBD SH3 HB3 hS3 hb3 s0 s1 s2 s3 y0 y1 y2 y3 y4
  have HE : Hid (sameO y.id y.kind y.links y.text x.id x.kind x.links x.text = sameO L[i].id L[i].kind L[i].links L[i].text x.id x.kind x.links x.text) := by rw [HY.out]; exact rfl
  rw [HE.out]
  clear HE
  cases hq : sameO L[i].id L[i].kind L[i].links L[i].text x.id x.kind x.links x.text with
  | true =>
    go_wp2
    go_ret
    exact ⟨ret_int (by rw [hq]; rfl), ⟨_, HN.out.1⟩, HN.out.2⟩
  | false =>
    go_wp2
    go_ret
    exact ⟨ret_int (by rw [hq]; rfl), ⟨_, HN.out.1⟩, HN.out.2⟩
end Go.Proofs.Ytehmlpkapjdhkaa
