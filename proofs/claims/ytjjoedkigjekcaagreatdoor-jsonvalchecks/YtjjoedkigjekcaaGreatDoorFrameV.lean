/-
  What is proved here: arguments that are JSON values, opened: each is a tree that lies in memory.
-/
import Derived.Test.YtjjoedkigjekcaaGreatDoorRows
import Derived.Test.YtjjoedkigjekcaaGreatDoorJ3
import Derived.ProofKit
import Derived.OpenShut
import Derived.MakeChecks
import Derived.SizedLaws
import Derived.Deep.Slices
namespace Go.Proofs.YtjjoedkigjekcaaGreatDoor
open Go.ChangeShapes Go.WideShapes Go.ChangeAt Go.RowKit Go.Deep

theorem Tryz.cellsS : Tryz.prog.cellsOf 9 = 1 := by kernel_rfl
theorem Tryz.cellsI64 : Tryz.prog.cellsOf 3 = 1 := by kernel_rfl
theorem Tryz.cellsVs : Tryz.prog.cellsOf 22 = 1 := by kernel_rfl
theorem Tryz.cellsMs : Tryz.prog.cellsOf 23 = 1 := by kernel_rfl
theorem Tryz.cellsV : Tryz.prog.cellsOf 25 = 4 := by kernel_rfl
theorem Tryz.cellsM : Tryz.prog.cellsOf 43 = 5 := by kernel_rfl
theorem Tryz.bytesV : Tryz.prog.bytesOf 25 = 72 := by kernel_rfl
theorem Tryz.bytesM : Tryz.prog.bytesOf 43 = 88 := by kernel_rfl
theorem weightsAll_mem {H : Type} {P : Program} {e : TypeId} : ∀ {l : List (DataW H)} {d : DataW H}, d ∈ l → ∀ n ∈ d.weights P e, n ∈ DataW.weightsAll P e l
  | y :: l, d, hd, n, hn => by
    rw [DataW.weightsAll, List.mem_append]
    rcases List.mem_cons.1 hd with rfl | hd
    · exact .inl hn
    · exact .inr (weightsAll_mem hd n hn)
section
variable {H : Type} {enc : TypeId × Value → H} {W : World}
/-- the elements of a slice that is read, one by one -/
theorem slice_parts {n : Nat} {t e : TypeId} {v : Value} {y : DataW H × List MemPlace} (hu : Tryz.prog.underlying t = some (.slice e)) (h : DataW.trod enc Tryz.prog W 0 (fun _ => true) true n t [v] = some y)
    (hw : ∀ x ∈ y.1.weights Tryz.prog t, x ≤ reachBytes) :
    ∃ (a : Option Addr) (len cap : Nat), v = .slice a len cap ∧ len * Tryz.prog.bytesOf e ≤ reachBytes ∧ ∀ i, i < len → ∃ a' n' cs' z, a = some a' ∧ n = n' + 1 ∧ W.cells? 0 (a'.add (i * Tryz.prog.cellsOf e)) (Tryz.prog.cellsOf e) = some cs' ∧ DataW.trod enc Tryz.prog W 0 (fun _ => true) true n' e cs' = some z ∧ ∀ x ∈ z.1.weights Tryz.prog e, x ≤ reachBytes := by
  rcases DataW.trod_slice hu h with ⟨hcs, -⟩ | ⟨a, len, cap, elems, rest, n', rfl, hcs, rfl, -, -, -, hlen, hel, -, -⟩
  · obtain rfl : v = .slice none 0 0 := by simpa using hcs
    exact ⟨none, 0, 0, rfl, by simp, fun i hi => by omega⟩
  · obtain rfl : v = .slice (some a) len cap := by simpa using hcs
    simp only [DataW.weights, hu, List.mem_cons, List.mem_append, List.length_map] at hw
    have h0 := hw _ (.inl rfl)
    refine ⟨some a, len, cap, rfl, Nat.le_trans (Nat.mul_le_mul_right _ (by omega)) h0, fun i hi => ?_⟩
    have hi' : i < elems.length := by omega
    have he := hel i hi
    rw [List.getElem?_eq_getElem hi', Option.bind_eq_some_iff] at he
    obtain ⟨cs', h1, h2⟩ := he
    refine ⟨a, n', cs', elems[i], rfl, rfl, h1, h2, fun x hx => hw x (.inr (.inl (weightsAll_mem (List.mem_map_of_mem (f := fun z : DataW H × List MemPlace => z.1) (List.getElem_mem hi')) x hx)))⟩
theorem spot_at {a : Addr} {n : Nat} {cs : List Value} (hc : W.cells? 0 (a.add (0 * n)) n = some cs) (hn : 0 < n) : ∃ b o, a = ⟨b, o, none⟩ := by
  obtain ⟨-, hl, h⟩ := World.cells?_some hc
  obtain ⟨b, o, spot⟩ := a
  have h0 := h 0 hn
  obtain ⟨u, hu⟩ : ∃ u, cs[0]? = some u := ⟨_, List.getElem?_eq_getElem (by omega)⟩
  rw [hu] at h0
  have hspot : spot = none := by simpa [Addr.add] using World.cell?_spot h0
  subst hspot
  exact ⟨b, o, rfl⟩
theorem cells_at {b o : Nat} {n i : Nat} {cs : List Value} (hc : W.cells? 0 ((⟨b, o, none⟩ : Addr).add (i * n)) n = some cs) : CellsAt W b (o + i * n) cs n := by
  obtain ⟨-, hl, h⟩ := World.cells?_some hc
  refine ⟨hl, fun j u hj => ?_⟩
  have hjl : j < n := by
    rw [← hl]
    exact (List.getElem?_eq_some_iff.1 hj).1
  have := h j hjl
  rw [add_add, Addr.add_lit] at this
  rw [hj] at this
  rw [← this]
  congr 2
  omega
set_option maxRecDepth 100000 in
set_option maxHeartbeats 2000000 in
theorem value_of : ∀ (n : Nat) (cs : List Value) (y : DataW H × List MemPlace), DataW.trod enc Tryz.prog W 0 (fun _ => true) true n 25 cs = some y → (∀ x ∈ y.1.weights Tryz.prog 25, x ≤ reachBytes) →
    ∃ t : J, VJ W t cs ∧ Small 140737488355328 t := by
  intro n
  induction n using Nat.strongRecOn with
  | _ n ih =>
    intro cs y h hw
    obtain ⟨xs, m, rfl, rfl, hl, hlen, hfl⟩ := DataW.trod_struct Tryz.underlying25 h
    rw [Tryz.cellsV] at hl
    match xs, hlen, cs, hl with
    | [y0, y1, y2, y3], _, [c0, c1, c2, c3], _ =>
      have g0 := hfl 0 _ rfl
      have g1 := hfl 1 _ rfl
      have g2 := hfl 2 _ rfl
      have g3 := hfl 3 _ rfl
      simp [Tryz.cellsS, Tryz.cellsI64, Tryz.cellsVs, Tryz.cellsMs] at g0 g1 g2 g3
      have hww : ∀ x, (x ∈ y1.1.weights Tryz.prog 9 ∨ x ∈ y2.1.weights Tryz.prog 22 ∨ x ∈ y3.1.weights Tryz.prog 23) → x ≤ reachBytes := fun x hx => hw x (by
        simp only [DataW.weights, Tryz.underlying25]
        show x ∈ DataW.weightsEach Tryz.prog [3, 9, 22, 23] [y0.1, y1.1, y2.1, y3.1]
        simp only [DataW.weightsEach, List.mem_append, List.not_mem_nil, or_false]
        exact .inr hx)
      obtain ⟨k, e0, -, -⟩ := DataW.trod_int Tryz.underlying3 g0
      obtain ⟨s, e1, rfl, -⟩ := DataW.trod_string Tryz.underlying9 g1
      obtain rfl : c0 = .int .i64 k := by simpa using e0
      obtain rfl : c1 = .string s := by simpa using e1
      have hsz : s.data.toList.length ≤ 140737488355328 := Nat.le_trans (hww _ (.inl (by simp [DataW.weights]))) (by decide)
      obtain ⟨a, len, cap, rfl, hlb, hel⟩ := slice_parts Tryz.underlying22 g2 (fun x hx => hww x (.inr (.inl hx)))
      obtain ⟨b, mlen, mcap, rfl, hmb, hme⟩ := slice_parts Tryz.underlying23 g3 (fun x hx => hww x (.inr (.inr hx)))
      rw [Tryz.bytesV] at hlb
      rw [Tryz.bytesM] at hmb
      have hrb : reachBytes = 140737488351232 := rfl
      have each : ∀ i, i < len → ∃ t : J, (∃ ba oa ds, a = some ⟨ba, oa, none⟩ ∧ CellsAt W ba (oa + i * 4) ds 4 ∧ VJ W t ds) ∧ Small 140737488355328 t := by
        intro i hi
        obtain ⟨a', n', cs', z, rfl, rfl, hc, ht, hz⟩ := hel i hi
        rw [Tryz.cellsV] at hc
        obtain ⟨ba, oa, rfl⟩ : ∃ ba oa, a' = ⟨ba, oa, none⟩ := by
          obtain ⟨a0, n0, cs0, z0, e, -, hc0, -⟩ := hel 0 (by omega)
          obtain rfl := Option.some.inj e
          rw [Tryz.cellsV] at hc0
          exact spot_at hc0 (by decide)
        obtain ⟨t, hv, hs⟩ := ih n' (by omega) cs' z ht hz
        exact ⟨t, ⟨ba, oa, cs', rfl, cells_at hc, hv⟩, hs⟩
      have eachM : ∀ i, i < mlen → ∃ x : List UInt8 × J, (∃ bb ob ds, b = some ⟨bb, ob, none⟩ ∧ CellsAt W bb (ob + i * 5) (.string (strL x.1) :: ds) 5 ∧ VJ W x.2 ds) ∧ x.1.length ≤ 140737488355328 ∧ Small 140737488355328 x.2 := by
        intro i hi
        obtain ⟨a', n', cs', z, rfl, rfl, hc, ht, hz⟩ := hme i hi
        rw [Tryz.cellsM] at hc
        obtain ⟨bb, ob, rfl⟩ : ∃ bb ob, a' = ⟨bb, ob, none⟩ := by
          obtain ⟨a0, n0, cs0, z0, e, -, hc0, -⟩ := hme 0 (by omega)
          obtain rfl := Option.some.inj e
          rw [Tryz.cellsM] at hc0
          exact spot_at hc0 (by decide)
        have hca := cells_at hc
        obtain ⟨zs, m', rfl, rfl, hl', hlen', hfl'⟩ := DataW.trod_struct Tryz.underlying43 ht
        rw [Tryz.cellsM] at hl'
        match zs, hlen', cs', hl' with
        | [z0, z1], _, [q0, q1, q2, q3, q4], _ =>
          have k0 := hfl' 0 _ rfl
          have k1 := hfl' 1 _ rfl
          simp [Tryz.cellsS, Tryz.cellsV] at k0 k1
          have hzz : ∀ x, (x ∈ z0.1.weights Tryz.prog 9 ∨ x ∈ z1.1.weights Tryz.prog 25) → x ≤ reachBytes := fun x hx => hz x (by
            simp only [DataW.weights, Tryz.underlying43]
            show x ∈ DataW.weightsEach Tryz.prog [9, 25] [z0.1, z1.1]
            simp only [DataW.weightsEach, List.mem_append, List.not_mem_nil, or_false]
            exact hx)
          obtain ⟨nm, en, rfl, -⟩ := DataW.trod_string Tryz.underlying9 k0
          obtain rfl : q0 = .string nm := by simpa using en
          obtain ⟨t, hv, hs⟩ := ih m' (by omega) [q1, q2, q3, q4] z1 k1 (fun x hx => hzz x (.inr hx))
          refine ⟨(nm.data.toList, t), ⟨bb, ob, [q1, q2, q3, q4], rfl, ?_, hv⟩, Nat.le_trans (hzz _ (.inl (by simp [DataW.weights]))) (by decide), hs⟩
          rw [show strL (nm.data.toList, t).1 = nm from strL_of nm]
          exact hca
      haveI : Inhabited J := ⟨.mk 0 [] [] []⟩
      obtain ⟨q, hq⟩ := choose_lt each
      obtain ⟨p, hp⟩ := choose_lt eachM
      have hlq : ((List.range len).map q).length = len := by simp
      have hlp : ((List.range mlen).map p).length = mlen := by simp
      refine ⟨.mk k s.data.toList ((List.range len).map q) ((List.range mlen).map p), (VJ_mk ..).2 ⟨a, cap, b, mcap, by rw [hlq, hlp, strL_of], fun j t hj => ?_, fun j x hj => ?_⟩, (Small_mk ..).2 ⟨⟨hsz, by rw [hlq]; omega, by rw [hlp]; omega, fun x hx => ?_⟩, fun x hx => ?_, fun x hx => ?_⟩⟩
      · obtain ⟨hjl, rfl⟩ := List.getElem?_eq_some_iff.1 hj
        rw [hlq] at hjl
        simpa using (hq j hjl).1
      · obtain ⟨hjl, rfl⟩ := List.getElem?_eq_some_iff.1 hj
        rw [hlp] at hjl
        simpa using (hp j hjl).1
      · obtain ⟨j, hj, rfl⟩ := List.mem_map.1 hx
        exact (hp j (List.mem_range.1 hj)).2.1
      · obtain ⟨j, hj, rfl⟩ := List.mem_map.1 hx
        exact (hq j (List.mem_range.1 hj)).2
      · obtain ⟨j, hj, rfl⟩ := List.mem_map.1 hx
        exact (hp j (List.mem_range.1 hj)).2.2
end
end Go.Proofs.YtjjoedkigjekcaaGreatDoor
