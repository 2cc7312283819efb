import Derived.Test.YtehmlpkapjdhkaaGreatDoorME
import Derived.Test.YtehmlpkapjdhkaaGreatDoorMK1
namespace Go.Proofs.YtehmlpkapjdhkaaGreatDoor
open Go.ChangeShapes Go.WideShapes Go.ChangeAt Go.RowKit Go.Joins Go.Deep

set_option maxRecDepth 100000 in
/-- A replica that comes in, opened, what it holds apart too. -/
theorem open_replica2 {H : Type} {enc : TypeId × Value → H} {W : World} {r : Reach} {b0 : Nat} {v : Value} {d : DataW H} {p : List MemPlace}
    (hv : Value.okWide Tryz.prog W r b0 36 v) (h : DataW.Trod enc Tryz.prog W 0 (fun _ => true) true 36 v d p) :
    ∃ (aS : Option Addr) (cs : Nat) (s : List Ob) (al : Option Addr) (cl : Nat) (l : List Rf) (g ph : Int) (a1 : Option Addr) (c1 : Nat) (m : List Ob) (a2 : Option Addr) (c2 : Nat) (us : List Up) (f0 : Bool),
      v = RV aS cs s al cl l g ph a1 c1 m a2 c2 us f0 ∧ RepH W aS s al l a1 m a2 us := by
  obtain ⟨cells, rfl, hsz⟩ := okWide_struct Tryz.underlying36 hv
  obtain ⟨v0, v1, v2, v3, v4, v5, v6, rfl⟩ := array7 (hsz.trans (by kernel_rfl))
  obtain ⟨fuel, hf⟩ := h
  have hf' : DataW.trod enc Tryz.prog W 0 (fun _ => true) true fuel 36 [v0, v1, v2, v3, v4, v5, v6] = some (d, p) := hf
  obtain ⟨xs, n, _, _, _, hlen, hx⟩ := DataW.trod_struct Tryz.underlying36 hf'
  match xs, hlen with
  | [x0, x1, x2, x3, x4], _ =>
    have k1 : Tryz.prog.cellsOf 25 = 1 := by kernel_rfl
    have k2 : Tryz.prog.cellsOf 34 = 1 := by kernel_rfl
    have k3 : Tryz.prog.cellsOf 3 = 1 := by kernel_rfl
    have k4 : Tryz.prog.cellsOf 28 = 3 := by kernel_rfl
    have k5 : Tryz.prog.cellsOf 26 = 1 := by kernel_rfl
    have k6 : Tryz.prog.cellsOf 4 = 1 := by kernel_rfl
    have h0 : DataW.trod enc Tryz.prog W 0 (fun _ => true) true n 25 [v0] = some x0 := by simpa [k1] using hx 0 _ rfl
    have h1 : DataW.trod enc Tryz.prog W 0 (fun _ => true) true n 34 [v1] = some x1 := by simpa [k2] using hx 1 _ rfl
    have h2 : DataW.trod enc Tryz.prog W 0 (fun _ => true) true n 3 [v2] = some x2 := by simpa [k3] using hx 2 _ rfl
    have h3 : DataW.trod enc Tryz.prog W 0 (fun _ => true) true n 3 [v3] = some x3 := by simpa [k3] using hx 3 _ rfl
    have h4 : DataW.trod enc Tryz.prog W 0 (fun _ => true) true n 28 [v4, v5, v6] = some x4 := by simpa [k4] using hx 4 _ rfl
    obtain ⟨y0, y1, y2, k, _, _, g0, g1, g2⟩ := trod_struct3 Tryz.underlying28 h4
    have g0' : DataW.trod enc Tryz.prog W 0 (fun _ => true) true k 25 [v4] = some y0 := by simpa [k1] using g0
    have g1' : DataW.trod enc Tryz.prog W 0 (fun _ => true) true k 26 [v5] = some y1 := by simpa [k5] using g1
    have g2' : DataW.trod enc Tryz.prog W 0 (fun _ => true) true k 4 [v6] = some y2 := by simpa [k6] using g2
    obtain ⟨aS, cs, s, rfl, hs, hsl, hsc, _, hroom⟩ := read_objects h0
    obtain ⟨al, cl, l, rfl, hl, hlc, hcm⟩ := read_refs h1
    obtain ⟨g, e2, _, _⟩ := DataW.trod_int Tryz.underlying3 h2
    obtain ⟨ph, e3, _, _⟩ := DataW.trod_int Tryz.underlying3 h3
    obtain ⟨a1, c1, m, rfl, hm, hml, _, _, _⟩ := read_objects g0'
    obtain ⟨a2, n2, c2, e5⟩ := slice_form Tryz.underlying26 g1'
    simp only [List.cons.injEq, and_true] at e5
    subst e5
    obtain ⟨us, rfl, hu, huc, hum, _⟩ := read_updates g1'
    obtain ⟨f0, e6, _⟩ := DataW.trod_bool Tryz.underlying4 g2'
    simp only [List.cons.injEq, and_true] at e2 e3 e6
    subst e2 e3 e6
    have hM : maxLen = 9223372036854775807 := rfl
    exact ⟨aS, cs, s, al, cl, l, g, ph, a1, c1, m, a2, c2, us, f0, rfl, hs, hl, hm, hu, by omega, by omega, by omega, by omega⟩
end Go.Proofs.YtehmlpkapjdhkaaGreatDoor
