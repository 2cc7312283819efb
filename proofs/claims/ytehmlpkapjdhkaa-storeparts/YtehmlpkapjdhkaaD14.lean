import Derived.Test.YtehmlpkapjdhkaaD13
namespace Go.Proofs.Ytehmlpkapjdhkaa
open Go.RowKit

/-- what Add answers. -/
def addE (l m : List Ob) : Int := if checkS l ≠ 0 then checkS l else if 12 < m.length then 2 else if eachE m ≠ 0 then eachE m else if takeErr l m ≠ 0 then takeErr l m else checkS (takeRes l m)

theorem err_links {x : Ob} (h : x.err = 0) : x.links.length ≤ 1000 := by
  have := (checkE_zero h).2.2.1
  omega
theorem eachE_all {m : List Ob} (h : eachE m = 0) : ∀ x ∈ m, x.err = 0 := by
  induction m with
  | nil => intro x hx; cases hx
  | cons y m ih =>
    rw [eachE] at h
    split at h
    · rename_i hy; exact absurd h hy
    · rename_i hy
      have hy' : y.err = 0 := Classical.byContradiction hy
      intro x hx
      rcases List.mem_cons.1 hx with rfl | hx
      · exact hy'
      · exact ih h x hx

theorem takeRes_length (m : List Ob) : ∀ L : List Ob, (takeRes L m).length ≤ L.length + m.length := by
  induction m with
  | nil => intro L; simp [takeRes]
  | cons x m ih =>
    intro L
    have h1 := ih (takeL L x)
    have h2 := takeL_length L x
    rw [takeRes, List.length_cons]; omega

/-- what Add hands back. -/
def AddPost (l m : List Ob) (w : World) (e : Ending) (w' : World) : Prop :=
  Below w.heap.size w w' ∧ ((addE l m ≠ 0 ∧ e = .returned (.tuple #[.slice none 0 0, .int .i64 (addE l m)])) ∨
    (addE l m = 0 ∧ ∃ a' c', e = .returned (.tuple #[.slice a' (takeRes l m).length c', .int .i64 0]) ∧ HoldsS w' a' (takeRes l m) ∧ (takeRes l m).length ≤ c' ∧ Room w' a' (takeRes l m)))

theorem AddPost.bad {l m : List Ob} {w w' : World} {r : Int} (hr : addE l m = r) (h0 : r ≠ 0) (hb : Below w.heap.size w w') : AddPost l m w (.returned (.tuple #[.slice none 0 0, .int .i64 r])) w' :=
  ⟨hb, .inl ⟨by rw [hr]; exact h0, by rw [hr]⟩⟩

set_option maxHeartbeats 1000000 in
theorem add_any (a : Option Addr) (c : Nat) (l : List Ob) (a2 : Option Addr) (c2 : Nat) (m : List Ob) (w : World) (h : HoldsS w a l) (hl : l.length ≤ 9223372036854775807) (h2 : HoldsS w a2 m) (hm : m.length ≤ 9223372036854775807) :
    Calls Try.prog 11 #[.slice a l.length c, .slice a2 m.length c2] w (AddPost l m w) := by
  have hmf : ∀ (fn : Fn) (first cap : Array Value) (w : World), (Instr.makeFunc fn first cap).run Try.prog w = .ok (.func fn first cap) w := fun _ _ _ _ => rfl
  go_enter Try.func11, Try.ntmps11
  go_wp2_with fail
  refine (checkS_any a c l w h hl).mono ?_
  rintro e w1 ⟨rfl, hb1⟩
  by_cases k1 : checkS l = 0
  case neg =>
    have HR : Hid (addE l m = checkS l) := by unfold Hid; rw [addE, if_pos k1]
    have HZ : Hid (checkS l ≠ 0) := k1
    have hz : (checkS l != 0) = true := by simpa using k1
    clear k1
    go_wp2
    refine bodyPost_ret (v := .tuple #[.slice none 0 0, .int .i64 (checkS l)]) (by simp [results, Try.results11, go_sem]) rfl ?_
    exact AddPost.bad HR.out HZ.out hb1
  have K1 : Hid (checkS l = 0) := k1
  rw [k1]
  clear k1
  by_cases k2 : (12 : Int) < (m.length : Int)
  case pos =>
    have HR : Hid (addE l m = 2) := by unfold Hid; rw [addE, if_neg (fun e => e K1.out), if_pos (by omega)]
    go_wp2
    refine bodyPost_ret (v := .tuple #[.slice none 0 0, .int .i64 2]) (by simp [results, Try.results11, go_sem]) rfl ?_
    exact AddPost.bad HR.out (by simp) hb1
  go_wp2_with fail
  refine (each_obj a2 c2 m w1 (h2.below hb1) hm).mono ?_
  rintro e w2 ⟨rfl, hb2⟩
  have hB2 := hb1.trans (hb2.mono hb1.size)
  by_cases k3 : eachE m = 0
  case neg =>
    have HR : Hid (addE l m = eachE m) := by unfold Hid; rw [addE, if_neg (fun e => e K1.out), if_neg (by omega), if_pos k3]
    have HZ : Hid (eachE m ≠ 0) := k3
    have hz : (eachE m != 0) = true := by simpa using k3
    clear k3
    go_wp2
    refine bodyPost_ret (v := .tuple #[.slice none 0 0, .int .i64 (eachE m)]) (by simp [results, Try.results11, go_sem]) rfl ?_
    exact AddPost.bad HR.out HZ.out hB2
  have K3 : Hid (eachE m = 0) := k3
  rw [k3]
  clear k3
  have hll : l.length ≤ 40 := (checkS_zero K1.out).1
  go_wp2_with fail
  refine (newShelf_any a c l w2 (h.below hB2) (by omega) (fun x hx => err_links (checkS_err K1.out x hx))).mono ?_
  rintro e w3 ⟨p, v, rs, rfl, hrs, SH, hb3⟩
  have HRS : Hid (rs.map Pl.x = l) := hrs
  clear hrs
  have hB3 := hB2.trans (hb3.mono hB2.size)
  have hpw : w.heap.size ≤ w2.heap.size := hB2.size
  go_wp2_with fail
  refine (each_take a2 c2 m l w2.heap.size p v rs w w3 h2 hB3 hpw SH HRS.out (by omega) (fun x hx => err_links (eachE_all K3.out x hx))).mono ?_
  rintro e w4 ⟨rfl, hres, hB4⟩
  by_cases k4 : takeErr l m = 0
  case neg =>
    have HR : Hid (addE l m = takeErr l m) := by unfold Hid; rw [addE, if_neg (fun e => e K1.out), if_neg (by omega), if_neg (fun e => e K3.out), if_pos k4]
    have HZ : Hid (takeErr l m ≠ 0) := k4
    have hz : (takeErr l m != 0) = true := by simpa using k4
    clear k4 hres
    go_wp2
    refine bodyPost_ret (v := .tuple #[.slice none 0 0, .int .i64 (takeErr l m)]) (by simp [results, Try.results11, go_sem]) rfl ?_
    exact AddPost.bad HR.out HZ.out hB4
  obtain ⟨v', rs', hrs', SH'⟩ := hres k4
  have HA : Hid (addE l m = checkS (takeRes l m)) := by unfold Hid; rw [addE, if_neg (fun e => e K1.out), if_neg (by omega), if_neg (fun e => e K3.out), if_neg (fun e => e k4)]
  rw [k4]
  clear k4 hres SH hb3 hb2 hb1 hB2 hB3
  obtain ⟨a', c', rfl, hH', hc'⟩ := SH'.reads
  have hcell := SH'.cell
  rw [hrs'] at hH' hcell
  have hRL : (takeRes l m).length ≤ c' := by rw [← hrs', List.length_map]; exact hc'
  have hR1 : (takeRes l m).length ≤ 9223372036854775807 := by have := takeRes_length m l; omega
  have hpl := SH'.lt
  have hRm : Room w4 a' (takeRes l m) := by rw [← hrs']; exact SH'.room
  clear hrs' hc' SH'
  go_wp2_with fail
  refine (checkS_any a' c' (takeRes l m) w4 hH' hR1).mono ?_
  rintro e w5 ⟨rfl, hb5⟩
  have hB5 := hB4.trans (hb5.mono hB4.size)
  have hcell5 := (hb5.cell (p := ⟨p, 0, none⟩) hpl).trans hcell
  have hH5 := hH'.below hb5
  have hRm5 : Hid (Room w5 a' (takeRes l m)) := hRm.below hb5
  clear hb5 hcell hH' hB4 hRm
  by_cases k5 : checkS (takeRes l m) = 0
  case neg =>
    have HZ : Hid (checkS (takeRes l m) ≠ 0) := k5
    have hz : (checkS (takeRes l m) != 0) = true := by simpa using k5
    clear k5
    go_wp2
    refine bodyPost_ret (v := .tuple #[.slice none 0 0, .int .i64 (checkS (takeRes l m))]) (by simp [results, Try.results11, go_sem]) rfl ?_
    exact AddPost.bad HA.out HZ.out hB5
  have HF : Hid (addE l m = 0 ∧ HoldsS w5 a' (takeRes l m) ∧ (takeRes l m).length ≤ c' ∧ Below w.heap.size w w5) := ⟨HA.out.trans k5, hH5, hRL, hB5⟩
  rw [k5]
  clear k5 hH5 hB5
  go_wp2
  refine bodyPost_ret (v := .tuple #[.slice a' (takeRes l m).length c', .int .i64 0]) (by simp [results, Try.results11, go_sem]) rfl ?_
  exact ⟨HF.out.2.2.2, .inr ⟨HF.out.1, a', c', rfl, HF.out.2.1, HF.out.2.2.1, hRm5.out⟩⟩
end Go.Proofs.Ytehmlpkapjdhkaa
