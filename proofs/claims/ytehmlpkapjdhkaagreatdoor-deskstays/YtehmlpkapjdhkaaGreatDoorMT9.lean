import Derived.Test.YtehmlpkapjdhkaaGreatDoorMT5
import Derived.Test.YtehmlpkapjdhkaaGreatDoorMY4
import Derived.Test.YtehmlpkapjdhkaaGreatDoorMX8
namespace Go.Proofs.YtehmlpkapjdhkaaGreatDoor
section
open Go.RowKit
set_option maxRecDepth 100000

/-- what Show says of a ref. -/
def refT (r : Rf) : ByteArray := ((r.name ++ (⟨#[61]⟩ : ByteArray)) ++ itoaS r.id) ++ (⟨#[59]⟩ : ByteArray)
def showL (t : ByteArray) : List Rf → ByteArray
  | [] => t
  | r :: l => showL (t ++ refT r) l
/-- what Show says of the newest replica. -/
def showS (r : Rp) : ByteArray := showL (itoaS r.g ++ (⟨#[58]⟩ : ByteArray)) r.l
theorem showL_snoc : ∀ (l : List Rf) (t : ByteArray) (r : Rf), showL t (l ++ [r]) = showL t l ++ refT r
  | [], _, _ => rfl
  | _ :: l, _, r => showL_snoc l _ r
theorem refT_size {r : Rf} (hn : r.name.size ≤ 12) (h0 : 0 ≤ r.id) (h1 : r.id ≤ 999) : (refT r).size ≤ 17 := by
  have := itoa_size r.id.toNat (by omega)
  rw [show ((r.id.toNat : Nat) : Int) = r.id by omega] at this
  unfold refT
  rw [ByteArray.size_append, ByteArray.size_append, ByteArray.size_append]
  have e1 : (⟨#[61]⟩ : ByteArray).size = 1 := rfl
  have e2 : (⟨#[59]⟩ : ByteArray).size = 1 := rfl
  omega
def RfOk (r : Rf) : Prop := r.name.size ≤ 12 ∧ 0 ≤ r.id ∧ r.id ≤ 999
theorem showL_size : ∀ (l : List Rf) (t : ByteArray), (∀ r ∈ l, RfOk r) → (showL t l).size ≤ t.size + l.length * 17
  | [], t, _ => by simp [showL]
  | r :: l, t, h => by
    have h1 := showL_size l (t ++ refT r) (fun v hv => h v (by simp [hv]))
    obtain ⟨a, b, c⟩ := h r (by simp)
    have h2 := refT_size a b c
    rw [ByteArray.size_append] at h1
    rw [showL, List.length_cons]
    omega
theorem rfOk_of {r : Rp} (h : r.err = 0) : r.l.length ≤ 8 ∧ ∀ x ∈ r.l, RfOk x := by
  have hr := err_refs h
  refine ⟨(refsE_iff.1 hr).2.1, fun x hx => ⟨nameE_size (((eachR_iff _ _).1 (refsE_iff.1 hr).2.2.1).1 x hx).1, ?_⟩⟩
  have := isC_le (refsE_iff.1 hr).1 (refs_isC hr hx)
  omega
theorem itoaB_any (n : Int) (h0 : 0 ≤ n) (h1 : n ≤ 999) (w : World) (ht : Tab w) : Calls Tryz.prog 94 #[.int .i64 n] w fun e w' => e = .returned (.string (itoaS n)) ∧ Below w.heap.size w w' := by
  refine (Tryz.strconv_Itoa n (by omega) (by omega) w ht).mono ?_
  rintro e w' ⟨rfl, k, os, rfl⟩
  exact ⟨rfl, below_grow w k os⟩
def ShPost (l : List Rp) (w : World) (e : Ending) (w' : World) : Prop :=
  Below w.heap.size w w' ∧ ((checkC l ≠ 0 ∧ e = .returned (.tuple #[.string ⟨#[]⟩, .int .i64 (checkC l)])) ∨ (checkC l = 0 ∧ e = .returned (.tuple #[.string (showS (top l)), .int .i64 0])))

set_option maxHeartbeats 8000000 in
theorem show_any (a : Option Addr) (c : Nat) (l : List Rq) (w : World) (hg : Glob w) (ht : Tab w) (h : HoldsQ w a l) (hlc : l.length ≤ c) (hcm : c ≤ 9223372036854775807) :
    Calls Tryz.prog 42 #[.agg #[.slice a l.length c]] w (ShPost (l.map Rq.r) w) := by
  obtain ⟨PO, HPO⟩ : ∃ P : Ending → World → Prop, Hid (P = ShPost (l.map Rq.r) w) := ⟨_, rfl⟩
  rw [← HPO.out]
  have hA := below_alloc w (.cells #[.slice a l.length c] 24)
  have k1 := heap_alloc_new w (.cells #[.slice a l.length c] 24)
  have y1 := c1_of k1
  have hc := newestC_any a c l _ (hg.below hA) (h.below hA) hlc hcm
  go_enter Tryz.func42, Tryz.ntmps42
  go_wp2_with fail
  generalize w.alloc (.cells #[.slice a l.length c] 24) = W0 at *
  refine hc.mono ?_
  clear hc y1
  rintro e W1 ⟨at', rfl, Hat, hb1⟩
  have hB1 := hA.trans (hb1.mono hA.size)
  have j1 := (hb1.block _ (heap_lt k1)).trans k1
  by_cases e1 : checkC (l.map Rq.r) = 0
  case neg =>
    have HF : Hid (∀ w', Below w.heap.size w w' → PO (.returned (.tuple #[.string ⟨#[]⟩, .int .i64 (checkC (l.map Rq.r))])) w') := fun w' hb => by
      rw [HPO.out]; exact ⟨hb, .inl ⟨e1, rfl⟩⟩
    have q1 : (checkC (l.map Rq.r) != 0) = true := by simpa using e1
    clear e1 Hat hb1 hA k1 j1
    generalize checkC (l.map Rq.r) = E at *
    go_wp2
    exact HF.out _ hB1
  have HC : Hid (checkC (l.map Rq.r) = 0) := e1
  rw [e1]
  obtain ⟨c1, c2, _⟩ := checkC_iff.1 e1
  have HAT : Hid (at' = bestI (l.map Rq.r)) := (Hat.out e1).trans (best_map l)
  have hat3 : at' < 3 := by rw [HAT.out]; exact bestI_lt c1
  have hl3 : l.length = 3 := by rw [List.length_map] at c1; exact c1
  have hatl : at' < l.length := by omega
  have hat' : (at' : Int) < (l.length : Int) := by omega
  have HQ : Hid (l[at'].r = top (l.map Rq.r)) := by
    show _ = rOf _ (bestI _)
    rw [← HAT.out]; simp [rOf, hatl]
  have HRE : l[at'].r.err = 0 := by
    have := c2 at' hat3
    rwa [show rOf (l.map Rq.r) at' = l[at'].r by simp [rOf, hatl]] at this
  have hg3 := err_gen HRE
  obtain ⟨hR8, HRok'⟩ := rfOk_of HRE
  have HRok : Hid (∀ x ∈ l[at'].r.l, RfOk x) := HRok'
  obtain ⟨al, ol, rfl⟩ := h.some (by omega)
  have hh := (h.below hB1).at hatl
  obtain ⟨⟨x0, x1, x2, x3, x4, x5, x6⟩, hqH⟩ := hh
  have y1 := c1_of j1
  clear e1 Hat c1 c2 HAT HRE hb1 k1 hA HRok' hl3
  have hA := below_alloc W1 l[at'].blk
  have kN := heap_alloc_new W1 l[at'].blk
  have hB2 := hB1.trans (hA.mono hB1.size)
  have hRR := hqH.hl.below hA
  have HL3 : Hid (l[at'].r.l.length ≤ 8) := hR8
  have hit := itoaB_any l[at'].r.g hg3.1 hg3.2 _ (ht.below hB2)
  obtain ⟨z0, z1, z2, z3, z4, z5, z6⟩ := c7_of kN
  clear j1
  go_wp2_with fail
  generalize W1.alloc l[at'].blk = W2 at *
  refine hit.mono ?_
  clear hit x0 x1 x2 x3 x4 x5 x6 y1 z0 z1 z2 z3 z4 z5 z6
  rintro e W3 ⟨rfl, hb3⟩
  have kN3 := (hb3.block _ (heap_lt kN)).trans kN
  have hB3 := hB2.trans (hb3.mono hB2.size)
  have hR3 := hRR.below hb3
  have hs0 : (itoaS l[at'].r.g).size ≤ 3 := by
    have := itoa_size l[at'].r.g.toNat (by omega)
    rwa [show ((l[at'].r.g.toNat : Nat) : Int) = l[at'].r.g by omega] at this
  have hsum : ((itoaS l[at'].r.g).size : Int) + 1 ≤ 9223372036854775807 := by omega
  obtain ⟨Q, hQd⟩ : ∃ Q, Q = l[at'] := ⟨_, rfl⟩
  rw [← hQd] at kN3 hR3 hs0 hsum HRok HL3 HQ ⊢
  have HSH : Hid (showS (top (l.map Rq.r)) = showL (itoaS Q.r.g ++ (⟨#[58]⟩ : ByteArray)) Q.r.l) := by unfold Hid; rw [← HQ.out]; rfl
  have HT0 : Hid ((itoaS Q.r.g ++ (⟨#[58]⟩ : ByteArray)).size ≤ 4) := by unfold Hid; rw [ByteArray.size_append]; have : (⟨#[58]⟩ : ByteArray).size = 1 := rfl; omega
  have hR8' : Q.r.l.length ≤ 8 := HL3.out
  obtain ⟨z0, z1, z2, z3, z4, z5, z6⟩ := c7_of kN3
  clear hQd kN kN3 hRR hb3 hB2 hA HQ hR8 hqH hg3
  generalize itoaS Q.r.g = J0 at *
  go_wp2
  obtain ⟨t0, ht0⟩ : ∃ t0, t0 = J0 ++ (⟨#[58]⟩ : ByteArray) := ⟨_, rfl⟩
  rw [← ht0] at HSH HT0
  go_loopw [7, 30] (fun t i wr => ∃ (k : Nat) (s : ByteArray), t = .string s ∧ i = .int .i64 k ∧ k ≤ Q.r.l.length ∧ Hid (s = showL t0 (Q.r.l.take k)) ∧ Below W3.heap.size W3 wr) (fun _ i _ => Q.r.l.length - (intOf i).toNat)
  case atStart => exact ⟨0, _, by rw [ht0]; rfl, rfl, Nat.zero_le _, rfl, Below.refl _ _⟩
  case round =>
    clear z0 z1 z2 z3 z4 z5 z6 ht0
    obtain ⟨k, s, rfl, rfl, hk, HSt, hBr⟩ := hrel
    by_cases hlt : k < Q.r.l.length
    case neg =>
      have hs : s = showS (top (l.map Rq.r)) := by
        rw [HSH.out, HSt.out, List.take_of_length_le (by omega)]
      have HF : Hid (PO (.returned (.tuple #[.string s, .int .i64 0])) wr) := by
        unfold Hid; rw [HPO.out]
        exact ⟨hB3.trans (hBr.mono hB3.size), .inr ⟨HC.out, by rw [hs]⟩⟩
      clear hs HSt hBr
      go_wp2
      exact HF.out
    have hlt' : (k : Int) < (Q.r.l.length : Int) := by omega
    obtain ⟨b, off, ea, hb, hcR⟩ := (hR3.below hBr) k hlt
    obtain ⟨u0, u1⟩ := hcR k hlt
    obtain ⟨ok1, ok2, ok3⟩ := HRok.out Q.r.l[k] (List.getElem_mem hlt)
    have hsz : s.size ≤ 1000 := by
      have := showL_size (Q.r.l.take k) t0 (fun r hr => HRok.out r (List.mem_of_mem_take hr))
      rw [← HSt.out, List.length_take] at this
      have := HT0.out
      omega
    have hjz := itoa_size Q.r.l[k].id.toNat (by omega)
    rw [show ((Q.r.l[k].id.toNat : Nat) : Int) = Q.r.l[k].id by omega] at hjz
    have HN : Hid (s ++ (((Q.r.l[k].name ++ (⟨#[61]⟩ : ByteArray)) ++ itoaS Q.r.l[k].id) ++ (⟨#[59]⟩ : ByteArray)) = showL t0 (Q.r.l.take (k + 1))) := by
      unfold Hid
      rw [List.take_succ_eq_append_getElem hlt, showL_snoc, ← HSt.out]; rfl
    have hit := fun (W : World) (hT : Tab W) => itoaB_any Q.r.l[k].id ok2 ok3 W hT
    obtain ⟨nm, hnm⟩ : ∃ nm, nm = Q.r.l[k].name := ⟨_, rfl⟩
    obtain ⟨J, hJ⟩ : ∃ J, J = itoaS Q.r.l[k].id := ⟨_, rfl⟩
    obtain ⟨iv, hiv⟩ : ∃ iv, iv = Q.r.l[k].id := ⟨_, rfl⟩
    rw [← hJ] at HN hjz hit
    rw [← hnm] at HN u0 ok1
    rw [← hiv] at u1 hit
    have s1 : ¬ 9223372036854775807 < nm.size + 1 := by omega
    have s2 : ¬ 9223372036854775807 < nm.size + 1 + J.size := by omega
    have s3 : ¬ 9223372036854775807 < nm.size + 1 + J.size + 1 := by omega
    have s4 : ¬ 9223372036854775807 < s.size + (nm.size + 1 + J.size + 1) := by omega
    clear hnm hJ hiv ok1 ok2 ok3 hcR hsz hjz HSt
    have hA := below_alloc wr (.cells #[.string nm, .int .i64 iv] 65)
    have kR := heap_alloc_new wr (.cells #[.string nm, .int .i64 iv] 65)
    have hB4 := hBr.trans (hA.mono hBr.size)
    rw [ea]
    go_upto_region 9 with fail
    generalize wr.alloc (.cells #[.string nm, .int .i64 iv] 65) = W4 at *
    clear u0 u1 hA hBr hb
    have hd_1 := below_refl_drew W4
    have hB_2 := hB4.trans (hd_1.mono hB4.size)
    have R_3 := (hd_1.block _ (heap_lt kR)).trans kR
    have hs_4 := hd_1.size
    clear kR hd_1 hB4
    refine wp_region_E (fun W => (W.heap[wr.heap.size]? = some (.cells #[.string nm, .int .i64 iv] 65))) (fun _ => false) (by kernel_rfl) R_3 (fun hS => ?_)
    clear hS
    generalize W4.drew = W_5 at *
    refine wpAnyE.take (i := 0) (v := ?_) rfl (by kernel_rfl) (by kernel_rfl) (by kernel_rfl) (by kernel_rfl) (fun _ _ _ h => h) (Or.inl ⟨by rfl, ?_⟩) R_3 ?_
    rotate_left
    · intro w hSw; obtain ⟨a0, a1⟩ := c2_of hSw; have s1 := s1; have s2 := s2; have s3 := s3; have s4 := s4; go_simp; with_reducible rfl
    try simp only [Act.put, uA, uC, uD, uE, uF]
    refine wpAnyE.take (i := 1) (v := ?_) rfl (by kernel_rfl) (by kernel_rfl) (by kernel_rfl) (by kernel_rfl) (fun _ _ _ h => h) (Or.inl ⟨by rfl, ?_⟩) R_3 ?_
    rotate_left
    · intro w hSw; obtain ⟨a0, a1⟩ := c2_of hSw; have s1 := s1; have s2 := s2; have s3 := s3; have s4 := s4; go_simp; with_reducible rfl
    try simp only [Act.put, uA, uB, uC, uD, uE, uF]
    refine wpAnyE.take (i := 4) (v := ?_) rfl (by kernel_rfl) (by kernel_rfl) (by kernel_rfl) (by kernel_rfl) (fun _ _ _ h => h) (Or.inl ⟨by rfl, ?_⟩) R_3 ?_
    rotate_left
    · intro w hSw; obtain ⟨a0, a1⟩ := c2_of hSw; have s1 := s1; have s2 := s2; have s3 := s3; have s4 := s4; go_simp; with_reducible rfl
    try simp only [Act.put, uA, uB, uC, uD, uE, uF]
    refine wpAnyE.take (i := 2) (v := ?_) rfl (by kernel_rfl) (by kernel_rfl) (by kernel_rfl) (by kernel_rfl) (fun _ _ _ h => h) (Or.inl ⟨by rfl, ?_⟩) R_3 ?_
    rotate_left
    · intro w hSw; obtain ⟨a0, a1⟩ := c2_of hSw; have s1 := s1; have s2 := s2; have s3 := s3; have s4 := s4; go_simp; with_reducible rfl
    try simp only [Act.put, uA, uB, uC, uD, uE, uF]
    refine wpAnyE.take (i := 5) (v := ?_) rfl (by kernel_rfl) (by kernel_rfl) (by kernel_rfl) (by kernel_rfl) (fun _ _ _ h => h) (Or.inl ⟨by rfl, ?_⟩) R_3 ?_
    rotate_left
    · intro w hSw; obtain ⟨a0, a1⟩ := c2_of hSw; have s1 := s1; have s2 := s2; have s3 := s3; have s4 := s4; go_simp; with_reducible rfl
    try simp only [Act.put, uA, uB, uC, uD, uE, uF]
    refine wpAnyE.take (i := 3) (v := ?_) rfl (by kernel_rfl) (by kernel_rfl) (by kernel_rfl) (by kernel_rfl) (fun _ _ _ h => h) (Or.inl ⟨by rfl, ?_⟩) R_3 ?_
    rotate_left
    · intro w hSw; obtain ⟨a0, a1⟩ := c2_of hSw; have s1 := s1; have s2 := s2; have s3 := s3; have s4 := s4; go_simp; with_reducible rfl
    try simp only [Act.put, uA, uB, uC, uD, uE, uF]
    refine wpAnyE.one (i := 6) (by kernel_rfl) rfl (fun K hK => ?_)
    have hc_6 := hit _ (ht.below (hB3.trans (hB_2.mono hB3.size)))
    go_simp
    refine hc_6.mono ?_
    clear hc_6
    rintro e W_7 ⟨rfl, h⟩
    have hB_8 := hB_2.trans (h.mono hB_2.size)
    have R_9 := (h.block _ (heap_lt R_3)).trans R_3
    have hs_10 := h.size
    clear R_3 h hB_2
    refine hK _ _ (fun _ => R_9) ?_
    clear hK K
    try simp only [Act.put, uA, uB, uC, uD, uE, uF]
    refine wpAnyE.take (i := 7) (v := ?_) rfl (by kernel_rfl) (by kernel_rfl) (by kernel_rfl) (by kernel_rfl) (fun _ _ _ h => h) (Or.inl ⟨by rfl, ?_⟩) R_9 ?_
    rotate_left
    · intro w hSw; obtain ⟨a0, a1⟩ := c2_of hSw; have s1 := s1; have s2 := s2; have s3 := s3; have s4 := s4; go_simp; with_reducible rfl
    try simp only [Act.put, uA, uB, uC, uD, uE, uF]
    refine wpAnyE.take (i := 8) (v := ?_) rfl (by kernel_rfl) (by kernel_rfl) (by kernel_rfl) (by kernel_rfl) (fun _ _ _ h => h) (Or.inl ⟨by rfl, ?_⟩) R_9 ?_
    rotate_left
    · intro w hSw; obtain ⟨a0, a1⟩ := c2_of hSw; have s1 := s1; have s2 := s2; have s3 := s3; have s4 := s4; go_simp; with_reducible rfl
    try simp only [Act.put, uA, uB, uC, uD, uE, uF]
    refine wpAnyE.take (i := 9) (v := ?_) rfl (by kernel_rfl) (by kernel_rfl) (by kernel_rfl) (by kernel_rfl) (fun _ _ _ h => h) (Or.inl ⟨by rfl, ?_⟩) R_9 ?_
    rotate_left
    · intro w hSw; obtain ⟨a0, a1⟩ := c2_of hSw; have s1 := s1; have s2 := s2; have s3 := s3; have s4 := s4; go_simp; with_reducible rfl
    try simp only [Act.put, uA, uB, uC, uD, uE, uF]
    refine wpAnyE.one (i := 10) (by kernel_rfl) rfl (fun K hK => ?_)
    go_simp
    refine hK _ _ (fun _ => R_9) ?_
    clear hK K
    try simp only [Act.put, uA, uB, uC, uD, uE, uF]
    refine wpAnyE.done (by kernel_rfl) ?_
    go_wp2
    go_roundw
    case rel => exact ⟨k + 1, _, rfl, by go_num, by omega, HN, hB_8⟩
    case measure => simp [intOf]; omega
end

section
open Go.RowKit
set_option maxRecDepth 100000

/-! desk.Run: scripts. -/
def stepC (l : List Rp) (x : Ac) : List Rp := if doE l x = 0 then dL l x else l
def toldA (l : List Rp) (x : Ac) : Bool := if doE l x = 0 then dT l x else false
def scrC (l : List Rp) : List Ac → List Rp
  | [] => l
  | x :: xs => scrC (stepC l x) xs
def scrT (l : List Rp) : List Ac → List Bool
  | [] => []
  | x :: xs => toldA l x :: scrT (stepC l x) xs
def scrE (l : List Rp) : List Ac → List Int
  | [] => []
  | x :: xs => doE l x :: scrE (stepC l x) xs
theorem scrC_snoc : ∀ (xs : List Ac) (l : List Rp) (x : Ac), scrC l (xs ++ [x]) = stepC (scrC l xs) x
  | [], _, _ => rfl
  | _ :: xs, _, x => scrC_snoc xs _ x
theorem scrT_snoc : ∀ (xs : List Ac) (l : List Rp) (x : Ac), scrT l (xs ++ [x]) = scrT l xs ++ [toldA (scrC l xs) x]
  | [], _, _ => rfl
  | y :: xs, l, x => congrArg (toldA l y :: ·) (scrT_snoc xs _ x)
theorem scrE_snoc : ∀ (xs : List Ac) (l : List Rp) (x : Ac), scrE l (xs ++ [x]) = scrE l xs ++ [doE (scrC l xs) x]
  | [], _, _ => rfl
  | y :: xs, l, x => congrArg (doE l y :: ·) (scrE_snoc xs _ x)
theorem scrT_len : ∀ (xs : List Ac) (l : List Rp), (scrT l xs).length = xs.length
  | [], _ => rfl
  | _ :: xs, _ => congrArg (· + 1) (scrT_len xs _)
theorem scrE_len : ∀ (xs : List Ac) (l : List Rp), (scrE l xs).length = xs.length
  | [], _ => rfl
  | _ :: xs, _ => congrArg (· + 1) (scrE_len xs _)

/-- an act with its places. -/
structure Aq where
  x : Ac
  am : Option Addr
  cm : Nat
  au : Option Addr
  cu : Nat
structure AAt (w : World) (b o : Nat) (q : Aq) : Prop where
  x0 : w.cell? ⟨b, o, none⟩ = some (.int .i64 q.x.k)
  x1 : w.cell? ⟨b, o + 1, none⟩ = some (.int .i64 q.x.o)
  x2 : w.cell? ⟨b, o + 2, none⟩ = some (.int .i64 q.x.up)
  x3 : w.cell? ⟨b, o + 3, none⟩ = some (.int .i64 q.x.la)
  x4 : w.cell? ⟨b, o + 4, none⟩ = some (.slice q.am q.x.m.length q.cm)
  x5 : w.cell? ⟨b, o + 5, none⟩ = some (.slice q.au q.x.us.length q.cu)
  x6 : w.cell? ⟨b, o + 6, none⟩ = some (.bool q.x.f)
theorem AAt.block {w w' : World} {b o : Nat} {q : Aq} (h : AAt w b o q) (e : w'.heap[b]? = w.heap[b]?) : AAt w' b o q :=
  ⟨(World.cell?_of_block (a := ⟨b, o, none⟩) e).trans h.x0, (World.cell?_of_block (a := ⟨b, o + 1, none⟩) e).trans h.x1, (World.cell?_of_block (a := ⟨b, o + 2, none⟩) e).trans h.x2, (World.cell?_of_block (a := ⟨b, o + 3, none⟩) e).trans h.x3, (World.cell?_of_block (a := ⟨b, o + 4, none⟩) e).trans h.x4, (World.cell?_of_block (a := ⟨b, o + 5, none⟩) e).trans h.x5, (World.cell?_of_block (a := ⟨b, o + 6, none⟩) e).trans h.x6⟩
structure Aq.H (w : World) (q : Aq) : Prop where
  hm : HoldsS w q.am q.x.m
  hml : q.x.m.length ≤ 9223372036854775807
  hu : HoldsU w q.au q.x.us
  hul : q.x.us.length ≤ 9223372036854775807
theorem Aq.H.below {w w' : World} {q : Aq} (h : q.H w) (hb : Below w.heap.size w w') : q.H w' := ⟨h.hm.below hb, h.hml, h.hu.below hb, h.hul⟩
/-- a slice of acts reads as a list. -/
def HoldsA (w : World) (a : Option Addr) (l : List Aq) : Prop :=
  ∀ i, i < l.length → ∃ b off, a = some ⟨b, off, none⟩ ∧ b < w.heap.size ∧ ∀ i (h : i < l.length), AAt w b (off + i * 7) l[i] ∧ l[i].H w
theorem HoldsA.below {w w' : World} {a : Option Addr} {l : List Aq} (h : HoldsA w a l) (hb : Below w.heap.size w w') : HoldsA w' a l := by
  intro i hi
  obtain ⟨b, off, e, hlt, hc⟩ := h i hi
  exact ⟨b, off, e, Nat.lt_of_lt_of_le hlt hb.size, fun j hj => ⟨(hc j hj).1.block (hb.block b hlt), (hc j hj).2.below hb⟩⟩

theorem Tryz.info4 : (Tryz.prog.info? 4).map (fun i => (i.zero, i.size, i.bytes)) = some (some (.bool false), 1, 1) := by kernel_rfl
theorem Tryz.info29 : (Tryz.prog.info? 29).map (fun i => (i.zero, i.size, i.bytes)) = some (some (.int .i64 0), 1, 8) := by kernel_rfl
theorem Tryz.under72 : Tryz.prog.underlying 72 = some (.slice 4) := by kernel_rfl
theorem Tryz.under73 : Tryz.prog.underlying 73 = some (.slice 29) := by kernel_rfl
/-- append of one value of one cell to a row of its own, and where the row then lies. -/
theorem app_one {t e bytes : Nat} {z : Value} (ht : Tryz.prog.underlying t = some (.slice e)) (hi : (Tryz.prog.info? e).map (fun i => (i.zero, i.size, i.bytes)) = some (some z, 1, bytes)) (hz : z.cells.size = 1) (hb : bytes ≤ 8)
    (w : World) (base : Nat) (ty : TypeId) (v : Value) (n : Nat) (xs : List Value) (hown : w.ownsRow base e 1 v n xs) (vb : Nat) (u : Value) (hv : w.heap[vb]? = some (.cells #[u] e)) (h1 : u.oneCell' = true) (hn : n ≤ 1000) (hbase : base ≤ w.heap.size) :
    ∃ v' w', (Builtin.append_ #[t, t] ty #[v, .slice (some ⟨vb, 0, none⟩) 1 1]).run Tryz.prog w = .ok v' w' ∧ w'.ownsRow base e 1 v' (n + 1) (xs ++ [u]) ∧ w.grownBy w' v.ownBlock ∧ ∀ k, v'.ownBlock = some k → v.ownBlock = some k ∨ w.heap.size ≤ k := by
  obtain ⟨i0, hi0, hz0, hzs, hzb⟩ := info_parts hi
  have hnews := World.news_of_block hv
  have h2 : ∀ x ∈ [u], x.oneCell' = true := fun x hx => by rw [List.mem_singleton.1 hx]; exact h1
  have hbb : ∀ m, m ≤ 1001 → m * bytes ≤ 140737488355328 := fun m hm => Nat.le_trans (Nat.mul_le_mul hm hb) (by omega)
  obtain ⟨v', w', hr, q1, q2, _⟩ := run_append_own (P := Tryz.prog) w base t ty e i0 _ 1 bytes ht hi0 hz0 hzs hzb hz (by omega) v n xs hown ⟨vb, 0, none⟩ 1 1 [u] rfl hnews h2 (by unfold maxLen; omega) (hbb _ (by omega)) hbase
  refine ⟨v', w', hr, q1, q2, ?_⟩
  rcases hown.2 with ⟨rfl, rfl⟩ | ⟨g, cap, cur, rfl, hbg, hg, hnc, hcm, hcs, htake⟩
  · obtain ⟨v2, w2, hr2, p1, _, _⟩ := run_append_own (P := Tryz.prog) w w.heap.size t ty e i0 _ 1 bytes ht hi0 hz0 hzs hzb hz (by omega) _ 0 [] (World.ownsRow_nil _ _ _ _) ⟨vb, 0, none⟩ 1 1 [u] rfl hnews h2 (by unfold maxLen; omega) (hbb _ (by omega)) (Nat.le_refl _)
    rw [hr] at hr2
    cases hr2
    exact fun k hk => .inr (p1.lt k hk).1
  · by_cases hroom : n + 1 ≤ cap
    · have hfit : n * i0.size + [u].length ≤ cur.size := by rw [hzs, hcs]; simp only [List.length_singleton]; omega
      have hr3 := run_append_room (P := Tryz.prog) w t ty e i0 ht hi0 g n cap cur hg ⟨vb, 0, none⟩ 1 1 [u] (by rw [hzs]; rfl) hnews h2 hroom hfit
      rw [hr] at hr3
      cases hr3
      exact fun k hk => .inl hk
    · have hold : ∀ j x, xs[j]? = some x → w.cell? ((⟨g, 0, none⟩ : Addr).add j) = some x := hown.cells (g := g) rfl
      have hr3 := run_append_grow (P := Tryz.prog) w t ty e i0 _ ht hi0 hz0 ⟨g, 0, none⟩ n cap xs (by rw [hzs]; exact hown.1) hold ⟨vb, 0, none⟩ 1 1 [u] (by rw [hzs]; rfl) hnews (by omega) (by omega) (growslice_fits (by omega) (by rw [hzb]; exact hbb _ (by omega)))
      rw [hr] at hr3
      cases hr3
      intro k hk
      simp only [Value.ownBlock, Option.some.injEq] at hk
      exact .inr (by omega)

/-- Run on its way: the cluster that it has, and what it has told. -/
structure RunS (W6 : World) (R : Nat) (l : List Rp) (T : List Bool) (E : List Int) (v7 v8 : Value) (wr : World) : Prop where
  low : Below W6.heap.size W6 wr
  own7 : wr.ownsRow (W6.heap.size + 1) 4 1 v7 T.length (T.map Value.bool)
  own8 : wr.ownsRow (W6.heap.size + 1) 29 1 v8 E.length (E.map (Value.int .i64))
  far : v7.ownBlock = none ∨ v7.ownBlock ≠ v8.ownBlock
  box : ∃ B cap qs z y, wr.heap[W6.heap.size]? = some (.cells #[.slice (some ⟨B, 0, none⟩) 3 cap] 24) ∧ (3 ≤ cap ∧ cap ≤ 9223372036854775807) ∧ qs.map Rq.r = l ∧ Dep wr z y (fun W => HoldsQ W (some ⟨B, 0, none⟩) qs) ∧ (y ≤ W6.heap.size ∨ W6.heap.size < z) ∧ (y ≤ R ∨ R < z) ∧ (∀ g, v7.ownBlock = some g → g < z ∨ y ≤ g) ∧ ∀ g, v8.ownBlock = some g → g < z ∨ y ≤ g
theorem RunS.size {W6 : World} {R : Nat} {l : List Rp} {T : List Bool} {E : List Int} {v7 v8 : Value} {wr : World} (h : RunS W6 R l T E v7 v8 wr) : W6.heap.size + 1 ≤ wr.heap.size := by
  obtain ⟨_, _, _, _, _, hb, _⟩ := h.box
  exact heap_lt hb
theorem RunS.below {W6 : World} {R : Nat} {l : List Rp} {T : List Bool} {E : List Int} {v7 v8 : Value} {w w' : World} (h : RunS W6 R l T E v7 v8 w) (hb : Below w.heap.size w w') : RunS W6 R l T E v7 v8 w' := by
  obtain ⟨B, cap, qs, z, y, k, hc, hq, hD, h1, h0, h2, h3⟩ := h.box
  exact ⟨h.low.trans (hb.mono h.low.size), ownsRow_below h.own7 hb, ownsRow_below h.own8 hb, h.far, B, cap, qs, z, y, (hb.block _ (heap_lt k)).trans k, hc, hq, hD.below hb, h1, h0, h2, h3⟩
theorem RunS.put {W6 : World} {R : Nat} {l l' : List Rp} {T : List Bool} {E : List Int} {v7 v8 : Value} {w w' : World} (h : RunS W6 R l T E v7 v8 w) (hR : R < W6.heap.size) (hb : Below w.heap.size w w') {B cap : Nat} {qs : List Rq} {y : Nat} (hc : 3 ≤ cap ∧ cap ≤ 9223372036854775807) (hq : qs.map Rq.r = l') (hD : Dep w' w.heap.size y (fun W => HoldsQ W (some ⟨B, 0, none⟩) qs)) :
    RunS W6 R l' T E v7 v8 (w'.setCell ⟨W6.heap.size, 0, none⟩ (.slice (some ⟨B, 0, none⟩) 3 cap)) := by
  have h' := h.below hb
  have hs := h.size
  obtain ⟨_, _, _, _, _, k, _⟩ := h'.box
  have keep : ∀ {e : TypeId} {v : Value} {n : Nat} {xs : List Value}, w'.ownsRow (W6.heap.size + 1) e 1 v n xs → (w'.setCell ⟨W6.heap.size, 0, none⟩ (.slice (some ⟨B, 0, none⟩) 3 cap)).ownsRow (W6.heap.size + 1) e 1 v n xs := fun {e v n xs} ho =>
    ownsRow_kept ho (fun g hg => heap_setCell_other _ _ _ _ (by have := (ho.lt g hg).1; show g ≠ W6.heap.size; omega))
  refine ⟨h'.low.setCell (Nat.le_refl _) _, keep h'.own7, keep h'.own8, h'.far, B, cap, qs, w.heap.size, y, c1_set k, hc, hq, hD.set (.inl (by omega)), .inr (by omega), .inr (by omega), fun g hg => .inl (h.own7.lt g hg).2, fun g hg => .inl (h.own8.lt g hg).2⟩
theorem RunS.told {W6 : World} {R : Nat} {l : List Rp} {T : List Bool} {E : List Int} {v7 v8 : Value} {w : World} (h : RunS W6 R l T E v7 v8 w) (d : Bool) (hT : T.length ≤ 1000) :
    ∃ v' w', (Builtin.append_ #[72, 72] 72 #[v7, .slice (some ⟨w.heap.size, 0, none⟩) 1 1]).run Tryz.prog (w.alloc (.cells #[.bool d] 4)) = .ok v' w' ∧ RunS W6 R l (T ++ [d]) E v' v8 w' := by
  have h' := h.below (below_alloc w (.cells #[.bool d] 4))
  obtain ⟨v', w', hr, ho, hg, hk⟩ := app_one Tryz.under72 Tryz.info4 rfl (by omega) (w.alloc (.cells #[.bool d] 4)) (W6.heap.size + 1) 72 v7 T.length (T.map Value.bool) h'.own7 w.heap.size (.bool d) (heap_alloc_new w _) rfl hT h'.size
  refine ⟨v', w', hr, ?_⟩
  obtain ⟨B, cap, qs, z, y, k, hc, hq, hD, h1, h0, h2, h3⟩ := h'.box
  have hb := own_grown h'.own7 hg h'.size
  have hy := hD.1
  refine ⟨h'.low.trans (hb.mono (by omega)), by rw [List.length_append, List.map_append]; exact ho, h'.own8.kept hg ?_, ?_, B, cap, qs, z, y, (hb.block _ (by omega)).trans k, hc, hq, hD.next (Nat.le_trans hy hb.size) (fun j ja jb => hg.block j (by omega) (fun e => ?_)), h1, h0, fun g e => ?_, h3⟩
  · rcases h'.far with e | e
    · cases hv : v8.ownBlock with
      | none => exact .inl rfl
      | some _ => exact .inr (by rw [e]; simp)
    · exact .inr (fun x => e x.symm)
  · cases hv : v'.ownBlock with
    | none => exact .inl rfl
    | some g =>
      refine .inr (fun e => ?_)
      rcases hk g hv with q | q
      · rcases h'.far with r | r
        · rw [r] at q; cases q
        · exact r (q.trans e)
      · have := (h'.own8.lt g e.symm).2
        omega
  · rcases h2 j e.symm with q | q <;> omega
  · rcases hk g e with q | q
    · exact h2 g q
    · exact .inr (by omega)
theorem RunS.errs {W6 : World} {R : Nat} {l : List Rp} {T : List Bool} {E : List Int} {v7 v8 : Value} {w : World} (h : RunS W6 R l T E v7 v8 w) (d : Int) (hT : E.length ≤ 1000) :
    ∃ v' w', (Builtin.append_ #[73, 73] 73 #[v8, .slice (some ⟨w.heap.size, 0, none⟩) 1 1]).run Tryz.prog (w.alloc (.cells #[.int .i64 d] 29)) = .ok v' w' ∧ RunS W6 R l T (E ++ [d]) v7 v' w' := by
  have h' := h.below (below_alloc w (.cells #[.int .i64 d] 29))
  obtain ⟨v', w', hr, ho, hg, hk⟩ := app_one Tryz.under73 Tryz.info29 rfl (by omega) (w.alloc (.cells #[.int .i64 d] 29)) (W6.heap.size + 1) 73 v8 E.length (E.map (Value.int .i64)) h'.own8 w.heap.size (.int .i64 d) (heap_alloc_new w _) rfl hT h'.size
  refine ⟨v', w', hr, ?_⟩
  obtain ⟨B, cap, qs, z, y, k, hc, hq, hD, h1, h0, h2, h3⟩ := h'.box
  have hb := own_grown h'.own8 hg h'.size
  have hy := hD.1
  refine ⟨h'.low.trans (hb.mono (by omega)), h'.own7.kept hg h'.far, by rw [List.length_append, List.map_append]; exact ho, ?_, B, cap, qs, z, y, (hb.block _ (by omega)).trans k, hc, hq, hD.next (Nat.le_trans hy hb.size) (fun j ja jb => hg.block j (by omega) (fun e => ?_)), h1, h0, h2, fun g e => ?_⟩
  · cases hv : v7.ownBlock with
    | none => exact .inl rfl
    | some g =>
      refine .inr (fun e => ?_)
      rcases hk g e.symm with q | q
      · rcases h'.far with r | r
        · rw [r] at hv; cases hv
        · exact r (hv.trans q.symm)
      · have := (h'.own7.lt g hv).2
        omega
  · rcases h3 j e.symm with q | q <;> omega
  · rcases hk g e with q | q
    · exact h3 g q
    · exact .inr (by omega)
theorem dep_q0 {w : World} {b : Nat} (h : HoldsQ w (some ⟨b, 0, none⟩) [q0, q0, q0]) : Dep w b (b + 1) (fun W => HoldsQ W (some ⟨b, 0, none⟩) [q0, q0, q0]) := by
  have hb : b < w.heap.size := by
    obtain ⟨b', off, e, hlt, -⟩ := h 0 (by decide)
    cases e; exact hlt
  refine ⟨hb, fun w' hs hk i hi => ⟨b, 0, rfl, by omega, fun j hj => ⟨(h.at hj).1.block (hk b (Nat.le_refl _) (by omega)), ?_⟩⟩⟩
  have hj' : j = 0 ∨ j = 1 ∨ j = 2 := by simp at hj; omega
  rcases hj' with rfl | rfl | rfl
  all_goals exact q0_H _
theorem RunS.start {w : World} {b R t : Nat} {v : Value} (h : HoldsQ w (some ⟨b, 0, none⟩) [q0, q0, q0]) (hR : w.heap[R]? = some (.cells #[v] t)) : RunS w R c0L [] [] (.slice none 0 0) (.slice none 0 0) (w.alloc (.cells #[.slice (some ⟨b, 0, none⟩) 3 3] 24)) := by
  have hb : b < w.heap.size := by
    obtain ⟨b', off, e, hlt, -⟩ := h 0 (by decide)
    cases e; exact hlt
  have hne : R ≠ b := fun e => by
    have := (h.at (k := 0) (by decide)).1.x1
    rw [← e, cell_of_row w R _ _ _ _ hR] at this
    simp at this
  exact ⟨below_alloc w _, World.ownsRow_nil _ _ _ _, World.ownsRow_nil _ _ _ _, .inl rfl, b, 3, [q0, q0, q0], b, b + 1, heap_alloc_new w _, by omega, rfl, (dep_q0 h).below (below_alloc w _), .inl hb, by omega, (fun _ e => by cases e), (fun _ e => by cases e)⟩
theorem dL_len (l : List Rp) (x : Ac) : (dL l x).length = 3 := by
  unfold dL; split
  · simp [eL]
  · rfl
theorem stepC_len {l : List Rp} (h : l.length = 3) (x : Ac) : (stepC l x).length = 3 := by
  unfold stepC; split
  · exact dL_len l x
  · exact h
theorem scrC_len : ∀ (xs : List Ac) {l : List Rp}, l.length = 3 → (scrC l xs).length = 3
  | [], _, h => h
  | x :: xs, _, h => scrC_len xs (stepC_len h x)
end

section
open Go.RowKit
attribute [local go_sem] Oper.semAt_some
set_option maxRecDepth 100000

theorem own_low {w : World} {base base' : Nat} {e : TypeId} {size : Nat} {v : Value} {n : Nat} {xs : List Value} (h : w.ownsRow base e size v n xs) (hb : base' ≤ base) : w.ownsRow base' e size v n xs :=
  ⟨h.1, h.2.imp_right (fun ⟨g, cap, cur, e1, e2, r⟩ => ⟨g, cap, cur, e1, Nat.le_trans hb e2, r⟩)⟩
/-- what Run hands back. -/
def RunPost (l : List Ac) (w : World) (e : Ending) (w' : World) : Prop :=
  Below w.heap.size w w' ∧ ((12 < l.length ∧ e = .returned (.tuple #[.agg #[.slice none 0 0], .slice none 0 0, .slice none 0 0, .int .i64 2])) ∨
    (l.length ≤ 12 ∧ ∃ B cap qs v7 v8, e = .returned (.tuple #[.agg #[.slice (some ⟨B, 0, none⟩) 3 cap], v7, v8, .int .i64 0]) ∧ qs.map Rq.r = scrC c0L l ∧ HoldsQ w' (some ⟨B, 0, none⟩) qs ∧ (3 ≤ cap ∧ cap ≤ 9223372036854775807) ∧ w'.ownsRow w.heap.size 4 1 v7 l.length ((scrT c0L l).map Value.bool) ∧ w'.ownsRow w.heap.size 29 1 v8 l.length ((scrE c0L l).map (Value.int .i64))))

set_option maxHeartbeats 8000000 in
theorem run_any (a : Option Addr) (c : Nat) (l : List Aq) (w : World) (hg : Glob w) (ht : Tab w) (h : HoldsA w a l) :
    Calls Tryz.prog 36 #[.slice a l.length c] w (RunPost (l.map Aq.x) w) := by
  obtain ⟨PO, HPO⟩ : ∃ P : Ending → World → Prop, Hid (P = RunPost (l.map Aq.x) w) := ⟨_, rfl⟩
  rw [← HPO.out]
  have hA := below_alloc w (.cells #[.slice none 0 0] 24)
  have k1 := heap_alloc_new w (.cells #[.slice none 0 0] 24)
  go_enter Tryz.func36, Tryz.ntmps36
  go_upto_region 1 with fail
  obtain ⟨W0, hW0⟩ : ∃ W, W = w.alloc (.cells #[.slice none 0 0] 24) := ⟨_, rfl⟩
  rw [← hW0] at hA k1 ⊢
  clear hW0
  by_cases hn : 12 < l.length
  case pos =>
    have hn' : (12 : Int) < (l.length : Int) := by omega
    have HF : Hid (∀ w', Below w.heap.size w w' → PO (.returned (.tuple #[.agg #[.slice none 0 0], .slice none 0 0, .slice none 0 0, .int .i64 2])) w') := fun w' hb => by
      rw [HPO.out]; exact ⟨hb, .inl ⟨by rw [List.length_map]; exact hn, rfl⟩⟩
    have f1 := f_of (o := 0) k1
    have o1 := c1_of k1
    have i0 := c1_of (c1_set (u := .slice none 0 0) k1)
    have HB : Hid (Below w.heap.size w (W0.setCell ⟨w.heap.size, 0, none⟩ (.slice none 0 0))) := hA.setCell (by show w.heap.size ≤ w.heap.size; omega) _
    clear k1 hA hn
    go_wp2
    refine bodyPost_ret (v := .tuple #[.agg #[.slice none 0 0], .slice none 0 0, .slice none 0 0, .int .i64 2]) (by simp [results, Tryz.results36, go_sem, i0]) rfl ?_
    exact HF.out _ HB.out
  have hn' : ¬ (12 : Int) < (l.length : Int) := by omega
  have hc := new_any W0
  go_wp2_with fail
  refine hc.mono ?_
  clear hc
  rintro e W1 ⟨b, rfl, hq, hb1⟩
  have hB1 := hA.trans (hb1.mono hA.size)
  have j1 := (hb1.block _ (heap_lt k1)).trans k1
  have S0 := RunS.start hq j1
  have hlt1 := heap_lt j1
  clear hA k1 hb1 hq
  go_wp2_with fail
  generalize W1.alloc (.cells #[.slice (some ⟨b, 0, none⟩) 3 3] 24) = W2 at *
  obtain ⟨X, hX⟩ : ∃ X, X = l.map Aq.x := ⟨_, rfl⟩
  have hXl : X.length = l.length := by rw [hX, List.length_map]
  rw [← hX] at HPO
  have HX : Hid (X = l.map Aq.x) := hX
  clear hX
  go_loopw [7, 8, 21] (fun v7 v8 i wr => ∃ (k : Nat) (x7 x8 : Value), x7 = v7 ∧ x8 = v8 ∧ i = .int .i64 k ∧ k ≤ l.length ∧ RunS W1 w.heap.size (scrC c0L (X.take k)) (scrT c0L (X.take k)) (scrE c0L (X.take k)) x7 x8 wr) (fun _ _ i _ => l.length - (intOf i).toNat)
  case atStart => exact ⟨0, _, _, rfl, rfl, rfl, Nat.zero_le _, by rw [List.take_zero]; exact S0⟩
  case round =>
    obtain ⟨k, v7, v8, rfl, rfl, rfl, hk, RS⟩ := hrel
    have hBr := hB1.trans (RS.low.mono hB1.size)
    by_cases hlt : k < l.length
    case neg =>
      have hkl : k = l.length := by omega
      subst hkl
      have eX : X.take l.length = X := by rw [← hXl]; exact List.take_length
      rw [eX] at RS
      obtain ⟨B, cap, qs, z, y, kC, hcap, hqs, hD, -, hR, -, -⟩ := RS.box
      have jR := (RS.low.block _ hlt1).trans j1
      have yC := c1_of kC
      have fR := f_of (o := 0) jR
      have oR := c1_of jR
      have iR := c1_of (c1_set (u := .slice (some ⟨B, 0, none⟩) 3 cap) jR)
      have HF : Hid (PO (.returned (.tuple #[.agg #[.slice (some ⟨B, 0, none⟩) 3 cap], v7, v8, .int .i64 0])) (wr.setCell ⟨w.heap.size, 0, none⟩ (.slice (some ⟨B, 0, none⟩) 3 cap))) := by
        unfold Hid; rw [HPO.out]
        have keep : ∀ {e : TypeId} {v : Value} {n m : Nat} {xs : List Value}, n = m → wr.ownsRow (W1.heap.size + 1) e 1 v n xs → (wr.setCell ⟨w.heap.size, 0, none⟩ (.slice (some ⟨B, 0, none⟩) 3 cap)).ownsRow w.heap.size e 1 v m xs := fun {e v n m xs} hnm ho => by
          subst hnm
          exact own_low (ownsRow_kept ho (fun g hg => heap_setCell_other wr ⟨w.heap.size, 0, none⟩ g (.slice (some ⟨B, 0, none⟩) 3 cap) (by have := (ho.lt g hg).1; show g ≠ w.heap.size; omega))) (by omega)
        exact ⟨hBr.setCell (Nat.le_refl _) _, .inr ⟨by omega, B, cap, qs, v7, v8, rfl, hqs, (hD.set (p := w.heap.size) (o := 0) (v := .slice (some ⟨B, 0, none⟩) 3 cap) (by omega)).here, hcap, keep (scrT_len _ _) RS.own7, keep (scrE_len _ _) RS.own8⟩⟩
      clear RS kC hD hqs jR j1 S0 hBr hB1 hR
      go_wp2
      refine bodyPost_ret (v := .tuple #[.agg #[.slice (some ⟨B, 0, none⟩) 3 cap], v7, v8, .int .i64 0]) (by simp [results, Tryz.results36, go_sem, iR]) rfl ?_
      exact HF.out
    have hlt' : (k : Int) < (l.length : Int) := by omega
    obtain ⟨ba, off, ea, hba, hcA⟩ := (h.below hBr) k hlt
    obtain ⟨⟨u0, u1, u2, u3, u4, u5, u6⟩, aH⟩ := hcA k hlt
    have eS : X.take (k + 1) = X.take k ++ [l[k].x] := by
      rw [List.take_succ_eq_append_getElem (by omega)]
      have := HX.out
      subst this
      rw [List.getElem_map]
    have HL : Hid ((X.take k).length = k) := by unfold Hid; rw [List.length_take]; omega
    have ES : Hid (scrC c0L (X.take (k + 1)) = stepC (scrC c0L (X.take k)) l[k].x ∧ scrT c0L (X.take (k + 1)) = scrT c0L (X.take k) ++ [toldA (scrC c0L (X.take k)) l[k].x] ∧ scrE c0L (X.take (k + 1)) = scrE c0L (X.take k) ++ [doE (scrC c0L (X.take k)) l[k].x]) := by
      unfold Hid; rw [eS, scrC_snoc, scrT_snoc, scrE_snoc]; exact ⟨rfl, rfl, rfl⟩
    have hL3 : (scrC c0L (X.take k)).length = 3 := scrC_len _ rfl
    have hT1 : (scrT c0L (X.take k)).length ≤ 1000 := by rw [scrT_len, HL.out]; omega
    have hT2 : (scrE c0L (X.take k)).length ≤ 1000 := by rw [scrE_len, HL.out]; omega
    obtain ⟨Q, hQd⟩ : ∃ Q, Q = l[k] := ⟨_, rfl⟩
    rw [← hQd] at u0 u1 u2 u3 u4 u5 u6 aH ES
    obtain ⟨L, hLd⟩ : ∃ L, L = scrC c0L (X.take k) := ⟨_, rfl⟩
    rw [← hLd] at RS ES hL3
    generalize scrT c0L (X.take k) = T at *
    generalize scrE c0L (X.take k) = E at *
    have hA2 := below_alloc wr (Q.x.blk Q.am Q.cm Q.au Q.cu)
    have kA := heap_alloc_new wr (Q.x.blk Q.am Q.cm Q.au Q.cu)
    have RS2 := RS.below hA2
    obtain ⟨B, cap, qs, z, y, kC, hcap, hqs, hD, -, -, -, -⟩ := RS2.box
    have hql : qs.length = 3 := by rw [← hL3, ← hqs, List.length_map]
    have hB2 := hBr.trans (hA2.mono hBr.size)
    have aH2 := aH.below hA2
    have hdo := do_any Q.x (some ⟨B, 0, none⟩) cap qs Q.am Q.cm Q.au Q.cu _ (hg.below hB2) (ht.below hB2) hD.here (by omega) hcap.2 aH2.hm aH2.hml aH2.hu aH2.hul
    rw [hql, hqs] at hdo
    have yC := c1_of kC
    have kC1 := (hA2.block _ (by have := RS.size; omega)).symm.trans kC
    have yC1 := c1_of kC1
    obtain ⟨z0, z1, z2, z3, z4, z5, z6⟩ := c7_of kA
    clear RS hcA aH aH2 hL3 HL eS hLd hQd kC hA2 kA hBr hql hqs hD S0 j1 hcap
    rw [ea]
    go_wp2_with fail
    generalize wr.alloc (Q.x.blk Q.am Q.cm Q.au Q.cu) = W3 at *
    refine hdo.mono ?_
    clear hdo yC yC1 kC1 z0 z1 z2 z3 z4 z5 z6 u0 u1 u2 u3 u4 u5 u6 hB2
    rintro e W4 ⟨hb4, ⟨hne, rfl⟩ | ⟨hz, B', cap', qs', rfl, hq', hD', h3', hm'⟩⟩
    · have RS5 := (RS2.below hb4).below (below_alloc W4 (.cells #[.slice none 0 0] 24))
      have q1 : (doE L Q.x == 0) = false := by simpa using hne
      have HE : Hid (scrC c0L (X.take (k + 1)) = L ∧ scrT c0L (X.take (k + 1)) = T ++ [false] ∧ scrE c0L (X.take (k + 1)) = E ++ [doE L Q.x]) := by
        obtain ⟨e1, e2, e3⟩ := ES.out
        unfold Hid; rw [e1, e2, e3]; unfold stepC toldA; rw [if_neg hne, if_neg hne]; exact ⟨rfl, rfl, rfl⟩
      generalize doE L Q.x = D at *
      clear RS2 hb4 hne ES
      go_upto_region 12 with fail
      generalize W4.alloc (.cells #[.slice none 0 0] 24) = W5 at *
      obtain ⟨v7', W6, hr7, RS6⟩ := RS5.told false hT1
      obtain ⟨v8', W7, hr8, RS7⟩ := RS6.errs D hT2
      have HN : Hid (RunS W1 w.heap.size (scrC c0L (X.take (k + 1))) (scrT c0L (X.take (k + 1))) (scrE c0L (X.take (k + 1))) v7' v8' W7) := by
        obtain ⟨e1, e2, e3⟩ := HE.out
        unfold Hid; rw [e1, e2, e3]; exact RS7
      clear RS5 RS6 RS7 HE
      go_wp2_with first | (at_builtin; refine Lib.wpList_append_run _ rfl _ _ 72 72 rfl _ _ rfl rfl _ _ hr7 ?_) | (at_builtin; refine Lib.wpList_append_run _ rfl _ _ 73 73 rfl _ _ rfl rfl _ _ hr8 ?_)
      go_roundw
      case rel => exact ⟨k + 1, v7', v8', rfl, rfl, by go_num, by omega, HN.out⟩
      case measure => simp [intOf]; omega
    · have hA5 := below_alloc W4 (.cells #[.slice (some ⟨B', 0, none⟩) 3 cap'] 24)
      have k11 := heap_alloc_new W4 (.cells #[.slice (some ⟨B', 0, none⟩) 3 cap'] 24)
      have hb5 := hb4.trans (hA5.mono hb4.size)
      obtain ⟨_, _, _, _, _, kC, -⟩ := (RS2.below hb5).box
      have RS6 := RS2.put hlt1 hb5 ⟨h3', hm'⟩ hq' (hD'.below hA5)
      have HE : Hid (scrC c0L (X.take (k + 1)) = dL L Q.x ∧ scrT c0L (X.take (k + 1)) = T ++ [dT L Q.x] ∧ scrE c0L (X.take (k + 1)) = E ++ [0]) := by
        obtain ⟨e1, e2, e3⟩ := ES.out
        unfold Hid; rw [e1, e2, e3]; unfold stepC toldA; rw [if_pos hz, if_pos hz, hz]; exact ⟨rfl, rfl, rfl⟩
      generalize dT L Q.x = D at *
      have y11 := c1_of k11
      have fC := f_of (o := 0) kC
      have oC := c1_of kC
      have hlt4 := heap_lt k11
      clear RS2 hb4 hz ES hA5 hb5 hD' kC k11
      go_upto_region 12 with fail
      generalize (W4.alloc (.cells #[.slice (some ⟨B', 0, none⟩) 3 cap'] 24)).setCell ⟨W1.heap.size, 0, none⟩ (.slice (some ⟨B', 0, none⟩) 3 cap') = W5 at *
      obtain ⟨v7', W6, hr7, RS7⟩ := RS6.told D hT1
      obtain ⟨v8', W7, hr8, RS8⟩ := RS7.errs 0 hT2
      have HN : Hid (RunS W1 w.heap.size (scrC c0L (X.take (k + 1))) (scrT c0L (X.take (k + 1))) (scrE c0L (X.take (k + 1))) v7' v8' W7) := by
        obtain ⟨e1, e2, e3⟩ := HE.out
        unfold Hid; rw [e1, e2, e3]; exact RS8
      clear RS6 RS7 RS8 HE
      go_wp2_with first | (at_builtin; refine Lib.wpList_append_run _ rfl _ _ 72 72 rfl _ _ rfl rfl _ _ hr7 ?_) | (at_builtin; refine Lib.wpList_append_run _ rfl _ _ 73 73 rfl _ _ rfl rfl _ _ hr8 ?_)
      go_roundw
      case rel => exact ⟨k + 1, v7', v8', rfl, rfl, by go_num, by omega, HN.out⟩
      case measure => simp [intOf]; omega
end

section
open Go.RowKit
set_option maxRecDepth 100000

def bU : List Up := [⟨{ data := #[98] }, 0, 3⟩]
def scriptL : List Ac := [⟨1, 0, 7, 4, firstL, firstU, false⟩, ⟨1, 0, 6, 0, [], bU, false⟩, ⟨2, 2, 0, 0, [], [], false⟩, ⟨1, 0, 6, 0, [], bU, false⟩, ⟨3, 3, 0, 0, [], [], false⟩]
def c5L : List Rp := scrC c0L scriptL
def act6 : Ac := ⟨2, 0, 0, 0, [], [], false⟩
theorem scr_T : scrT c0L scriptL = [true, false, true, true, false] := by decide +kernel
theorem scr_E : scrE c0L scriptL = [0, 0, 0, 0, 3] := by decide +kernel
theorem scr_c : checkC c5L = 0 := by decide +kernel
theorem scr_s : showS (top c5L) = ⟨#[50, 58, 98, 61, 51, 59, 109, 97, 105, 110, 61, 51, 59]⟩ := by decide +kernel
theorem scr_e : doE c5L act6 = 0 := by decide +kernel
theorem scr_d : dT c5L act6 = true := by decide +kernel
theorem scr_g : (rOf (dL c5L act6) 0).g = 2 := by decide +kernel

theorem holdsA_of {w : World} {b : Nat} {xs : Array Value} {t : TypeId} {l : List Aq} (k : w.heap[b]? = some (.cells xs t)) (hc : ∀ i (h : i < l.length), xs[i * 7]? = some (.int .i64 l[i].x.k) ∧ xs[i * 7 + 1]? = some (.int .i64 l[i].x.o) ∧ xs[i * 7 + 2]? = some (.int .i64 l[i].x.up) ∧ xs[i * 7 + 3]? = some (.int .i64 l[i].x.la) ∧ xs[i * 7 + 4]? = some (.slice l[i].am l[i].x.m.length l[i].cm) ∧ xs[i * 7 + 5]? = some (.slice l[i].au l[i].x.us.length l[i].cu) ∧ xs[i * 7 + 6]? = some (.bool l[i].x.f))
    (hH : ∀ i (h : i < l.length), l[i].H w) : HoldsA w (some ⟨b, 0, none⟩) l := by
  intro i hi
  refine ⟨b, 0, rfl, heap_lt k, fun j hj => ⟨?_, hH j hj⟩⟩
  obtain ⟨h0, h1, h2, h3, h4, h5, h6⟩ := hc j hj
  rw [Nat.zero_add]
  exact ⟨(cell_of_row _ _ _ _ _ _ k).trans h0, (cell_of_row _ _ _ _ _ _ k).trans h1, (cell_of_row _ _ _ _ _ _ k).trans h2, (cell_of_row _ _ _ _ _ _ k).trans h3, (cell_of_row _ _ _ _ _ _ k).trans h4, (cell_of_row _ _ _ _ _ _ k).trans h5, (cell_of_row _ _ _ _ _ _ k).trans h6⟩
theorem holdsU1 {w : World} {b : Nat} {x : Up} (k : w.heap[b]? = some (.cells #[.string x.name, .int .i64 x.old, .int .i64 x.new] 40)) : HoldsU w (some ⟨b, 0, none⟩) [x] := by
  intro i hi
  refine ⟨_, _, rfl, heap_lt k, fun j hj => ?_⟩
  have hj0 : j = 0 := by simp at hj; omega
  subst hj0
  exact c3_of k
theorem holdsS0 (w : World) : HoldsS w none [] := fun i hi => absurd hi (Nat.not_lt_zero i)
theorem holdsU0 (w : World) : HoldsU w none [] := fun i hi => absurd hi (Nat.not_lt_zero i)

set_option maxHeartbeats 4000000 in
theorem script_any (w : World) : Calls Tryz.prog 91 #[] w fun e w' => ∃ b qs, e = .returned (.slice (some ⟨b, 0, none⟩) 5 5) ∧ HoldsA w' (some ⟨b, 0, none⟩) qs ∧ qs.map Aq.x = scriptL ∧ Below w.heap.size w w' := by
  have hc := first_any w
  go_enter Tryz.func91, Tryz.ntmps91
  go_wp2_with fail
  refine hc.mono ?_
  clear hc
  rintro e W1 ⟨g, u, rfl, hS, hU, hb1⟩
  obtain ⟨b1, hb1'⟩ : ∃ b1 : Obj, b1 = .cells #[.string { data := #[98] }, .int .i64 0, .int .i64 3] 40 := ⟨_, rfl⟩
  obtain ⟨b3, hb3'⟩ : ∃ b3 : Obj, b3 = .cells #[.int .i64 1, .int .i64 0, .int .i64 7, .int .i64 4, .slice (some ⟨g, 0, none⟩) 3 5, .slice (some ⟨u, 0, none⟩) 1 1, .bool false, .int .i64 1, .int .i64 0, .int .i64 6, .int .i64 0, .slice none 0 0, .slice (some ⟨W1.heap.size, 0, none⟩) 1 1, .bool false, .int .i64 2, .int .i64 2, .int .i64 0, .int .i64 0, .slice none 0 0, .slice none 0 0, .bool false, .int .i64 1, .int .i64 0, .int .i64 6, .int .i64 0, .slice none 0 0, .slice (some ⟨W1.heap.size + 1, 0, none⟩) 1 1, .bool false, .int .i64 3, .int .i64 3, .int .i64 0, .int .i64 0, .slice none 0 0, .slice none 0 0, .bool false] 81 := ⟨_, rfl⟩
  obtain ⟨k1, k2, k3, hB⟩ := three_blocks W1 b1 b1 b3
  have hB1 := hb1.trans (hB.mono hb1.size)
  have hS' := hS.below hB
  have hU' := hU.below hB
  have HA : Hid (∃ qs, HoldsA (((W1.alloc b1).alloc b1).alloc b3) (some ⟨W1.heap.size + 2, 0, none⟩) qs ∧ qs.map Aq.x = scriptL) := by
    refine ⟨[⟨⟨1, 0, 7, 4, firstL, firstU, false⟩, some ⟨g, 0, none⟩, 5, some ⟨u, 0, none⟩, 1⟩, ⟨⟨1, 0, 6, 0, [], bU, false⟩, none, 0, some ⟨W1.heap.size, 0, none⟩, 1⟩, ⟨⟨2, 2, 0, 0, [], [], false⟩, none, 0, none, 0⟩, ⟨⟨1, 0, 6, 0, [], bU, false⟩, none, 0, some ⟨W1.heap.size + 1, 0, none⟩, 1⟩, ⟨⟨3, 3, 0, 0, [], [], false⟩, none, 0, none, 0⟩], holdsA_of (k3.trans (congrArg some hb3')) ?_ ?_, rfl⟩
    · intro i hi
      have hi' : i = 0 ∨ i = 1 ∨ i = 2 ∨ i = 3 ∨ i = 4 := by simp at hi; omega
      rcases hi' with rfl | rfl | rfl | rfl | rfl
      all_goals exact ⟨rfl, rfl, rfl, rfl, rfl, rfl, rfl⟩
    · have n0 : ([] : List Ob).length ≤ 9223372036854775807 := by decide
      have m0 : ([] : List Up).length ≤ 9223372036854775807 := by decide
      have n1 : firstL.length ≤ 9223372036854775807 := by decide
      have m1 : firstU.length ≤ 9223372036854775807 := by decide
      have m2 : bU.length ≤ 9223372036854775807 := by decide
      intro i hi
      have hi' : i = 0 ∨ i = 1 ∨ i = 2 ∨ i = 3 ∨ i = 4 := by simp at hi; omega
      rcases hi' with rfl | rfl | rfl | rfl | rfl
      · exact ⟨hS', n1, hU', m1⟩
      · exact ⟨holdsS0 _, n0, holdsU1 (k1.trans (congrArg some hb1')), m2⟩
      · exact ⟨holdsS0 _, n0, holdsU0 _, m0⟩
      · exact ⟨holdsS0 _, n0, holdsU1 (k2.trans (congrArg some hb1')), m2⟩
      · exact ⟨holdsS0 _, n0, holdsU0 _, m0⟩
  subst hb1' hb3'
  clear k1 k2 k3 hB hb1 hS hU hS' hU'
  go_wp2
  go_ret
  obtain ⟨qs, q1, q2⟩ := HA.out
  exact ⟨_, qs, rfl, q1, q2, hB1⟩
end

section
open Go.RowKit
set_option maxRecDepth 100000

theorem own_form {w : World} {base : Nat} {e : TypeId} {v : Value} {n : Nat} {xs : List Value} (h : w.ownsRow base e 1 v n xs) (hn : 0 < n) : ∃ g cap, v = .slice (some ⟨g, 0, none⟩) n cap := by
  rcases h.2 with ⟨-, q⟩ | ⟨g, cap, _, q, _⟩
  · omega
  · exact ⟨g, cap, q⟩
theorem own_cell {w : World} {base : Nat} {e : TypeId} {g n cap : Nat} {xs : List Value} (h : w.ownsRow base e 1 (.slice (some ⟨g, 0, none⟩) n cap) n xs) (j : Nat) (u : Value) (hu : xs[j]? = some u) : w.cell? ⟨g, j, none⟩ = some u := by
  have := h.cells (g := g) rfl j u hu
  rwa [Addr.add_lit, Nat.zero_add] at this

set_option maxHeartbeats 8000000 in
theorem deskBegun_any (w : World) (hg : Glob w) (ht : Tab w) : Calls Tryz.prog 38 #[] w fun e w' => e = .returned (.bool true) ∧ Below w.heap.size w w' := by
  have hc := script_any w
  go_enter Tryz.func38, Tryz.ntmps38
  go_wp2_with fail
  refine hc.mono ?_
  clear hc
  rintro e W1 ⟨b, qs, rfl, hA, hqs, hb1⟩
  have hql : qs.length = 5 := by have := congrArg List.length hqs; rw [List.length_map] at this; exact this
  have hc := run_any (some ⟨b, 0, none⟩) 5 qs W1 (hg.below hb1) (ht.below hb1) hA
  rw [hql, hqs] at hc
  go_wp2_with fail
  refine hc.mono ?_
  clear hc hA hqs hql
  rintro e W2 ⟨hb2, ⟨hno, -⟩ | ⟨-, B, cap, rs, v7, v8, rfl, hrs, hQ, hcap, hT, hE⟩⟩
  · exact absurd hno (by decide)
  rw [scr_T] at hT
  rw [scr_E] at hE
  have hT : W2.ownsRow W1.heap.size 4 1 v7 5 [.bool true, .bool false, .bool true, .bool true, .bool false] := hT
  have hE : W2.ownsRow W1.heap.size 29 1 v8 5 [.int .i64 0, .int .i64 0, .int .i64 0, .int .i64 0, .int .i64 3] := hE
  obtain ⟨g7, c7, rfl⟩ := own_form hT (by decide)
  obtain ⟨g8, c8, rfl⟩ := own_form hE (by decide)
  have hrl : rs.length = 3 := rOf_len hrs (scrC_len _ rfl)
  have hrs : rs.map Rq.r = c5L := hrs
  have hB2 := hb1.trans (hb2.mono hb1.size)
  have hA3 := below_alloc W2 (.cells #[.slice (some ⟨B, 0, none⟩) 3 cap] 24)
  have k1 := heap_alloc_new W2 (.cells #[.slice (some ⟨B, 0, none⟩) 3 cap] 24)
  have hB3 := hB2.trans (hA3.mono hB2.size)
  have hT3 := ownsRow_below hT hA3
  have hE3 := ownsRow_below hE hA3
  have hQ3 := hQ.below hA3
  have hs := show_any (some ⟨B, 0, none⟩) cap rs _ (hg.below hB3) (ht.below hB3) hQ3 (by omega) hcap.2
  rw [hrl, hrs] at hs
  have y1 := c1_of k1
  clear hb1 hb2 hT hE hQ hB2 hA3
  go_wp2_with fail
  generalize W2.alloc (.cells #[.slice (some ⟨B, 0, none⟩) 3 cap] 24) = W3 at *
  refine hs.mono ?_
  clear hs y1
  rintro e W4 ⟨hb4, ⟨hno, -⟩ | ⟨-, rfl⟩⟩
  · exact absurd scr_c hno
  rw [scr_s]
  have hB4 := hB3.trans (hb4.mono hB3.size)
  have hT4 := ownsRow_below hT3 hb4
  have hE4 := ownsRow_below hE3 hb4
  have hQ4 := hQ3.below hb4
  have k14 := (hb4.block _ (heap_lt k1)).trans k1
  have hdo := do_any act6 (some ⟨B, 0, none⟩) cap rs none 0 none 0 W4 (hg.below hB4) (ht.below hB4) hQ4 (by omega) hcap.2 (holdsS0 _) (by decide) (holdsU0 _) (by decide)
  rw [hrl, hrs] at hdo
  have y1 := c1_of k14
  clear hb4 hT3 hE3 hQ3 hB3 k1 hQ4
  go_wp2_with fail
  refine hdo.mono ?_
  clear hdo y1
  rintro e W5 ⟨hb5, ⟨hno, -⟩ | ⟨-, B', cap', qs', rfl, hq', hD', h3', hm'⟩⟩
  · exact absurd scr_e hno
  rw [scr_d]
  have hql : qs'.length = 3 := rOf_len hq' (dL_len _ _)
  have hB5 := hB4.trans (hb5.mono hB4.size)
  have hA6 := below_alloc W5 (.cells #[.slice (some ⟨B', 0, none⟩) 3 cap'] 24)
  have k7 := heap_alloc_new W5 (.cells #[.slice (some ⟨B', 0, none⟩) 3 cap'] 24)
  have hB6 := hB5.trans (hA6.mono hB5.size)
  have hT6 := ownsRow_below (ownsRow_below hT4 hb5) hA6
  have hE6 := ownsRow_below (ownsRow_below hE4 hb5) hA6
  have x0 := ((hD'.below hA6).here.at (k := 0) (by omega)).1.x2
  rw [rOf_q hq' (i := 0) (by omega), scr_g] at x0
  have t0 := own_cell hT6 0 _ rfl
  have t1 := own_cell hT6 1 _ rfl
  have t2 := own_cell hT6 2 _ rfl
  have t3 := own_cell hT6 3 _ rfl
  have t4 := own_cell hT6 4 _ rfl
  have e4 := own_cell hE6 4 _ rfl
  have y7 := c1_of k7
  clear hb5 hT4 hE4 hB4 k14 hA6 hB5 hD' hT6 hE6 hq' k7 hrs hg ht
  go_wp2
  go_ret
  exact ⟨rfl, hB6⟩
end
end Go.Proofs.YtehmlpkapjdhkaaGreatDoor
