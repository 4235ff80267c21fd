/-
  What is proved here: what comp.Text and the reference's Text answer, of a right norm: of a text that is one, and of one that isn't.
-/
import Derived.Test.YtoceaielclomcaaRRGreatDoorMN
import Derived.Test.YtoceaielclomcaaRRGreatDoorUE
import Derived.Test.YtoceaielclomcaaRRGreatDoorUR
namespace Go.Proofs.YtoceaielclomcaaRRGreatDoor
open Go.RowKit

theorem encode_right (v : Value) (rs : List Int) (w : World) (p : Nat → Addr) (hl : rs.length ≤ 268435456) (hg : Gl p w) (hv : Runes w v rs) (hr : ∀ r ∈ rs, 0 < Utf.width r) :
    Calls Tryz.prog 37 #[v] w fun e w' => e = .returned (.tuple #[.string (strOfNums (rs.flatMap Utf.form)), .nilIface]) ∧ Below w.heap.size w w' := by
  refine (encode_any v rs w p hl hg hv).mono ?_
  rintro e w' ⟨hb, h | ⟨k, hk, _, hn, _⟩⟩
  · exact ⟨h.2, hb⟩
  · exact absurd (hr _ (by rw [List.getD, List.getElem?_eq_getElem hk]; exact List.getElem_mem hk)) hn

set_option maxRecDepth 20000 in
set_option maxHeartbeats 4000000 in
theorem compText_ok (a : Option Addr) (cap : Nat) (vc ve : Value) (t : Nm) (s : ByteArray) (rs : List Int) (w : World) (p : Nat → Addr) (hg : Gl p w) (hN : NormAt w a cap vc ve t) (hs : s.size ≤ 2147483648) (hd : Utf.dec s.data.toList 0 = (rs, 0, 0)) (hbig : (apartM t.rows rs).length ≤ 2147483) (hll : rs.length ≤ 2147483) (hcl : (compM t rs).length ≤ 268435456) (hr : ∀ r ∈ compM t rs, 0 < Utf.width r) :
    Calls Tryz.prog 16 #[.agg #[.slice a t.rows.length cap, vc, ve], .string s] w fun e w' => e = .returned (.tuple #[.string (strOfNums ((compM t rs).flatMap Utf.form)), .nilIface]) ∧ Below w.heap.size w w' := by
  obtain ⟨W0, hW0, hsz, hb0, e0, e1, e2⟩ := norm_box w (.slice a t.rows.length cap) vc ve
  have HDE := Hid.mk' (decode_ok s W0 p hs (hg.below hb0) rs hd)
  have HAL : Hid (∀ W v, Below w.heap.size w W → Runes W v rs → _) := fun W v hb hv => compAll_any a cap vc ve t v rs W (hg.below hb).hg (hN.below hb) hv hbig hll
  have HEN : Hid (∀ W v, Below w.heap.size w W → Runes W v (compM t rs) → _) := fun W v hb hv => encode_right v (compM t rs) W p hcl (hg.below hb) hv hr
  obtain ⟨ca, ccap, rfl, -⟩ := id hN.C
  obtain ⟨ea, ecap, rfl, -⟩ := id hN.E
  have HEE : Hid (∀ W, Below W0.heap.size W0 W → (W.cell? ⟨w.heap.size, 0, none⟩ = some (.slice a t.rows.length cap) ∧ W.cell? ⟨w.heap.size, 1, none⟩ = some (.slice ca t.cls.length ccap) ∧ W.cell? ⟨w.heap.size, 2, none⟩ = some (.slice ea t.exc.length ecap)) ∧ Below w.heap.size w W) := fun W hb => ⟨⟨(hb.cell (lt_of_cell e0)).trans e0, (hb.cell (lt_of_cell e1)).trans e1, (hb.cell (lt_of_cell e2)).trans e2⟩, hb0.trans (hb.mono hb0.size)⟩
  have HTR : Hid (∀ W W', Below W0.heap.size W0 W → Below W.heap.size W W' → Below W0.heap.size W0 W') := fun W W' h h' => h.trans (h'.mono h.size)
  generalize strOfNums ((compM t rs).flatMap Utf.form) = res at *
  generalize compM t rs = cl at *
  clear hg hN e0 e1 e2 hbig hll hb0 hd hs hr hcl
  go_enter Tryz.func16, Tryz.ntmps16
  go_wp2_with fail
  refine HDE.out.mono ?_
  rintro e w1 ⟨v1, rfl, ho1, hb1⟩
  obtain ⟨a1, c1, rfl⟩ := own_slice ho1
  have r1 := Runes.own ho1
  have hzb : Below W0.heap.size W0 w1 := hb1
  obtain ⟨⟨z0, z1, z2⟩, hbw1⟩ := HEE.out w1 hzb
  clear ho1 hb1
  go_wp2_with fail
  refine (HAL.out w1 _ hbw1 r1).mono ?_
  rintro e wA ⟨vA, rfl, hoA, hbA⟩
  obtain ⟨aA, cA, rfl⟩ := own_slice hoA
  have rA := Runes.own hoA
  have hzA := HTR.out _ _ hzb hbA
  clear hoA
  go_wp2_with fail
  refine (HEN.out wA _ (HEE.out _ hzA).2 rA).mono ?_
  rintro e wB ⟨rfl, hbB⟩
  have hzB := HTR.out _ _ hzA hbB
  go_wp2
  go_ret2
  exact ⟨rfl, (HEE.out _ hzB).2⟩
set_option maxRecDepth 20000 in
set_option maxHeartbeats 4000000 in
theorem compText_err (a : Option Addr) (cap : Nat) (vc ve : Value) (t : Nm) (s : ByteArray) (k c : Nat) (w : World) (p : Nat → Addr) (hg : Gl p w) (hN : NormAt w a cap vc ve t) (hs : s.size ≤ 2147483648) (hd : Utf.dec s.data.toList 0 = ([], k, c)) (hc : c ≠ 0) :
    Calls Tryz.prog 16 #[.agg #[.slice a t.rows.length cap, vc, ve], .string s] w fun e w' => ∃ b, e = .returned (.tuple #[.string ⟨#[]⟩, .iface 63 (.pointer (some ⟨b, 0, none⟩))]) ∧ Flt w' (.iface 63 (.pointer (some ⟨b, 0, none⟩))) w.heap.size k (p c) ∧ Below w.heap.size w w' := by
  obtain ⟨W0, hW0, hsz, hb0, e0, e1, e2⟩ := norm_box w (.slice a t.rows.length cap) vc ve
  have HDE := Hid.mk' (decode_err s W0 p hs (hg.below hb0) k c hd hc)
  obtain ⟨ca, ccap, rfl, -⟩ := id hN.C
  obtain ⟨ea, ecap, rfl, -⟩ := id hN.E
  have HB0 := Hid.mk' hb0
  clear hg hN e0 e1 e2 hb0 hd hs
  go_enter Tryz.func16, Tryz.ntmps16
  go_wp2_with fail
  refine HDE.out.mono ?_
  rintro e w1 ⟨b, rfl, hf, hb1⟩
  have HF := Hid.mk' hf
  clear hf
  go_wp2
  go_ret2
  exact ⟨b, rfl, HF.out.weaken HB0.out.size rfl, HB0.out.trans (hb1.mono HB0.out.size)⟩
set_option maxRecDepth 20000 in
set_option maxHeartbeats 4000000 in
theorem refCompText_ok (a : Option Addr) (cap : Nat) (vc ve : Value) (t : Nm) (s : ByteArray) (rs : List Int) (w : World) (hN : NormAt w a cap vc ve t) (hs : s.size ≤ 60) (hd : Utf.dec s.data.toList 0 = (rs, 0, 0)) (hbig : (apartM t.rows rs).length ≤ 2147483) (hll : rs.length ≤ 2147483) (hcl : (compM t rs).length ≤ 268435456) (hr : ∀ r ∈ compM t rs, 0 < Utf.width r) :
    Calls Tryz.prog 17 #[.agg #[.slice a t.rows.length cap, vc, ve], .string s] w fun e w' => e = .returned (.tuple #[.string (strOfNums ((compM t rs).flatMap Utf.form)), .int .i64 0, .int .i64 0]) ∧ Below w.heap.size w w' := by
  obtain ⟨W0, hW0, hsz, hb0, e0, e1, e2⟩ := norm_box w (.slice a t.rows.length cap) vc ve
  have HDE := Hid.mk' (refDecode_ok s W0 hs rs hd)
  have HAL : Hid (∀ W v, Below w.heap.size w W → Runes W v rs → _) := fun W v hb hv => refCompAll_any a cap vc ve t v rs W (hN.below hb) hv hbig hll
  have HEN : Hid (∀ W v, Runes W v (compM t rs) → _) := fun W v hv => refEncode_any v (compM t rs) W hcl hv hr
  obtain ⟨ca, ccap, rfl, -⟩ := id hN.C
  obtain ⟨ea, ecap, rfl, -⟩ := id hN.E
  have HEE : Hid (∀ W, Below W0.heap.size W0 W → (W.cell? ⟨w.heap.size, 0, none⟩ = some (.slice a t.rows.length cap) ∧ W.cell? ⟨w.heap.size, 1, none⟩ = some (.slice ca t.cls.length ccap) ∧ W.cell? ⟨w.heap.size, 2, none⟩ = some (.slice ea t.exc.length ecap)) ∧ Below w.heap.size w W) := fun W hb => ⟨⟨(hb.cell (lt_of_cell e0)).trans e0, (hb.cell (lt_of_cell e1)).trans e1, (hb.cell (lt_of_cell e2)).trans e2⟩, hb0.trans (hb.mono hb0.size)⟩
  have HTR : Hid (∀ W W', Below W0.heap.size W0 W → Below W.heap.size W W' → Below W0.heap.size W0 W') := fun W W' h h' => h.trans (h'.mono h.size)
  generalize strOfNums ((compM t rs).flatMap Utf.form) = res at *
  generalize compM t rs = cl at *
  clear hN e0 e1 e2 hbig hll hb0 hd hs hr hcl
  go_enter Tryz.func17, Tryz.ntmps17
  go_wp2_with fail
  refine HDE.out.mono ?_
  rintro e w1 ⟨v1, rfl, ho1, hb1⟩
  obtain ⟨a1, c1, rfl⟩ := own_slice ho1
  have r1 := Runes.own ho1
  have hzb : Below W0.heap.size W0 w1 := hb1
  obtain ⟨⟨z0, z1, z2⟩, hbw1⟩ := HEE.out w1 hzb
  clear ho1 hb1
  go_wp2_with fail
  refine (HAL.out w1 _ hbw1 r1).mono ?_
  rintro e wA ⟨vA, rfl, hoA, hbA⟩
  obtain ⟨aA, cA, rfl⟩ := own_slice hoA
  have rA := Runes.own hoA
  have hzA := HTR.out _ _ hzb hbA
  clear hoA
  go_wp2_with fail
  refine (HEN.out wA _ rA).mono ?_
  rintro e wB ⟨rfl, hbB⟩
  have hzB := HTR.out _ _ hzA hbB
  go_wp2
  go_ret3
  exact ⟨rfl, (HEE.out _ hzB).2⟩
set_option maxRecDepth 20000 in
set_option maxHeartbeats 4000000 in
theorem refCompText_err (a : Option Addr) (cap : Nat) (vc ve : Value) (t : Nm) (s : ByteArray) (k c : Nat) (w : World) (hN : NormAt w a cap vc ve t) (hs : s.size ≤ 60) (hd : Utf.dec s.data.toList 0 = ([], k, c)) (hc : c ≠ 0) :
    Calls Tryz.prog 17 #[.agg #[.slice a t.rows.length cap, vc, ve], .string s] w fun e w' => e = .returned (.tuple #[.string ⟨#[]⟩, .int .i64 k, .int .i64 c]) ∧ Below w.heap.size w w' := by
  obtain ⟨W0, hW0, hsz, hb0, e0, e1, e2⟩ := norm_box w (.slice a t.rows.length cap) vc ve
  have HDE := Hid.mk' (refDecode_err s W0 hs k c hd hc)
  obtain ⟨ca, ccap, rfl, -⟩ := id hN.C
  obtain ⟨ea, ecap, rfl, -⟩ := id hN.E
  have HB0 := Hid.mk' hb0
  have hcz : ((c : Int) == 0) = false := by simpa using hc
  clear hN e0 e1 e2 hb0 hd hs hc
  go_enter Tryz.func17, Tryz.ntmps17
  go_wp2_with fail
  refine HDE.out.mono ?_
  rintro e w1 ⟨rfl, hb1⟩
  go_wp2
  go_ret3
  exact ⟨rfl, HB0.out.trans (hb1.mono HB0.out.size)⟩
end Go.Proofs.YtoceaielclomcaaRRGreatDoor
