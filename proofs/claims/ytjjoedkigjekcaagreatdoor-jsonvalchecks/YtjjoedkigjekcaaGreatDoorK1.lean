/-
  What is proved here: what stands for a byte in quotes; what jsonval.Quote and its parts answer.
-/
import Derived.Test.YtjjoedkigjekcaaGreatDoorK0
import Derived.Deep.RegionHeld3
namespace Go.Proofs.YtjjoedkigjekcaaGreatDoor
open Go.RowKit

def escN (n : Int) : Int := if n = 34 ∨ n = 92 then n else if n = 8 then 98 else if n = 9 then 116 else if n = 10 then 110 else if n = 12 then 102 else if n = 13 then 114 else 0
theorem quote_all : ∀ n : Fin 256, (0 < escN n.val ∧ escN n.val < 256 ∧ quoteB (UInt8.ofNat n.val) = [92, UInt8.ofNat (escN n.val).toNat]) ∨ (escN n.val = 0 ∧ n.val < 32 ∧ quoteB (UInt8.ofNat n.val) = [92, 117, 48, 48, hexC (UInt8.ofNat (n.val / 16)), hexC (UInt8.ofNat (n.val % 16))]) ∨ (escN n.val = 0 ∧ 32 ≤ n.val ∧ quoteB (UInt8.ofNat n.val) = [UInt8.ofNat n.val]) := by decide +kernel
theorem quote_cases (c : UInt8) : (0 < escN c.toNat ∧ escN c.toNat < 256 ∧ quoteB c = [92, UInt8.ofNat (escN c.toNat).toNat]) ∨ (escN c.toNat = 0 ∧ c.toNat < 32 ∧ quoteB c = [92, 117, 48, 48, hexC (UInt8.ofNat (c.toNat / 16)), hexC (UInt8.ofNat (c.toNat % 16))]) ∨ (escN c.toNat = 0 ∧ 32 ≤ c.toNat ∧ quoteB c = [c]) := by
  have h := quote_all ⟨c.toNat, c.toNat_lt⟩
  simp only [UInt8.ofNat_toNat] at h
  exact h
def lowHex : ByteArray := ⟨#[48, 49, 50, 51, 52, 53, 54, 55, 56, 57, 97, 98, 99, 100, 101, 102]⟩
theorem lowHex_all : ∀ n : Nat, n < 16 → lowHex.data.toList[n]? = some (hexC (UInt8.ofNat n)) := by decide +kernel
theorem lowHex_get (i : Nat) (h : i < lowHex.size) (n : Nat) (e : i = n) : lowHex[i]'h = hexC (UInt8.ofNat n) := by
  subst e
  have h1 := lowHex_all i h
  have h2 : lowHex.data.toList[i]? = some (lowHex[i]'h) := by
    rw [List.getElem?_eq_getElem (by simpa using h)]; rfl
  rw [h2] at h1
  exact Option.some.inj h1
set_option maxHeartbeats 1000000 in
theorem escapeLetter_any (n : Int) (w : World) :
    Calls Tryz.prog 75 #[.int .u8 n] w fun e w' => e = .returned (.int .u8 (escN n)) ∧ w = w' := by
  have hb : n = 34 ∨ n = 92 ∨ n = 8 ∨ n = 9 ∨ n = 10 ∨ n = 12 ∨ n = 13 ∨ (n ≠ 34 ∧ n ≠ 92 ∧ n ≠ 8 ∧ n ≠ 9 ∧ n ≠ 10 ∧ n ≠ 12 ∧ n ≠ 13) := by omega
  rcases hb with rfl | rfl | rfl | rfl | rfl | rfl | rfl | ⟨h1, h2, h3, h4, h5, h6, h7⟩
  iterate 7
    · go_enter Tryz.func75, Tryz.ntmps75
      go_wp2
      go_ret
      exact ⟨rfl, rfl⟩
  · have HE : Hid (escN n = 0) := by show _ = _; unfold escN; simp [h1, h2, h3, h4, h5, h6, h7]
    have g1 : (n == 34) = false := by simpa using h1
    have g2 : (n == 92) = false := by simpa using h2
    have g3 : (n == 8) = false := by simpa using h3
    have g4 : (n == 9) = false := by simpa using h4
    have g5 : (n == 10) = false := by simpa using h5
    have g6 : (n == 12) = false := by simpa using h6
    have g7 : (n == 13) = false := by simpa using h7
    go_enter Tryz.func75, Tryz.ntmps75
    go_wp2
    go_ret
    exact ⟨by rw [HE.out]; rfl, rfl⟩
theorem bytesNew (w : World) (ys : List UInt8) (t : TypeId) : ∀ j u, (bytesV ys)[j]? = some u → (w.alloc (.cells (bytesV ys).toArray t)).cell? ((⟨w.heap.size, 0, none⟩ : Addr).add j) = some u := cells_new w (bytesV ys) t
theorem bytesNewD (w : World) (ys : List UInt8) (t : TypeId) : ∀ j u, (bytesV ys)[j]? = some u → (w.alloc (.cells (bytesV ys).toArray t)).drew.cell? ((⟨w.heap.size, 0, none⟩ : Addr).add j) = some u := cells_new w (bytesV ys) t
theorem cells_drew (w : World) (l : List Value) (t : TypeId) : ∀ j u, l[j]? = some u → (w.alloc (.cells l.toArray t)).drew.cell? ((⟨w.heap.size, 0, none⟩ : Addr).add j) = some u := cells_new w l t
theorem u8_back {n : Int} (h0 : 0 ≤ n) (h1 : n < 256) : ((UInt8.ofNat n.toNat).toNat : Int) = n := by
  rw [UInt8.toNat_ofNat', Nat.mod_eq_of_lt (by omega)]; omega
set_option maxRecDepth 20000 in
set_option maxHeartbeats 2000000 in
theorem appendEscaped_any (c : UInt8) (v : Value) (B : Nat) (bs : List UInt8) (w : World) (hown : BR B w v bs) (hB : B ≤ w.heap.size) (hn : bs.length ≤ 1073741824) :
    Calls Tryz.prog 61 #[v, .int .u8 c.toNat] w fun e w' => ∃ v', e = .returned v' ∧ BR B w' v' (bs ++ quoteB c) ∧ Goes w v w' v' := by
  have hc256 := c.toNat_lt
  have HE : Hid (∀ W, _) := fun W => escapeLetter_any (c.toNat : Int) W
  rcases quote_cases c with ⟨h0, h1, hq⟩ | ⟨h0, h1, hq⟩ | ⟨h0, h1, hq⟩
  · have hx := u8_back (Int.le_of_lt h0) h1
    obtain ⟨x, hX⟩ : ∃ x : UInt8, UInt8.ofNat (escN c.toNat).toNat = x := ⟨_, rfl⟩
    rw [hX] at hq hx
    rw [hq]
    have hne : ((x.toNat : Int) != 0) = true := by rw [bne_iff_ne]; omega
    rw [← hx] at HE
    clear h0 h1 hq hX hx
    have HO := Hid.mk' (hown.alloc (.cells (bytesV [92, x]).toArray 5))
    have HN := Hid.mk' (bytesNew w [92, x] 5)
    have HG := Hid.mk' ((Goes.refl w v).alloc (.cells (bytesV [92, x]).toArray 5))
    clear hown
    go_enter Tryz.func61, Tryz.ntmps61
    go_wp2_with (first | (go_at_call 75; refine (HE.out _).mono ?_; rintro e w' ⟨rfl, rfl⟩) | (at_builtin; refine wpList_bytes _ rfl _ _ rfl B _ bs [92, x] rfl HO.out ⟨w.heap.size, 0, none⟩ 2 2 rfl rfl HN.out (by omega) (by simp; omega) ?_; intro v' w2 hown' hgo))
    go_ret
    exact ⟨_, rfl, hown', HG.out.trans hgo⟩
  · rw [hq]
    have hlt : decide ((c.toNat : Int) < 32) = true := by rw [decide_eq_true_iff]; omega
    rw [h0] at HE
    clear h0 hq
    have hand : bits .and .u8 (c.toNat : Int) 15 = (c.toNat : Int) % 16 := bits_mask .u8 8 (by decide) wraps_u8 4 (by decide) _ (by omega) (by omega)
    have hx1 : ((c.toNat : Int) / 16).toNat < lowHex.size := by have : lowHex.size = 16 := rfl; omega
    have hx2 : ((c.toNat : Int) % 16).toNat < lowHex.size := by have : lowHex.size = 16 := rfl; omega
    have HX1 : Hid ((lowHex[((c.toNat : Int) / 16).toNat]'hx1) = hexC (UInt8.ofNat (c.toNat / 16))) := lowHex_get _ hx1 _ (by omega)
    have HX2 : Hid ((lowHex[((c.toNat : Int) % 16).toNat]'hx2) = hexC (UInt8.ofNat (c.toNat % 16))) := lowHex_get _ hx2 _ (by omega)
    have HOD := Hid.mk' (World.ownsRow.alloc hown (.cells #[Value.int .u8 92, .int .u8 117, .int .u8 48, .int .u8 48, .int .u8 ((ByteArray.mk #[48, 49, 50, 51, 52, 53, 54, 55, 56, 57, 97, 98, 99, 100, 101, 102])[((c.toNat : Int) / 16).toNat]'hx1).toNat, .int .u8 ((ByteArray.mk #[48, 49, 50, 51, 52, 53, 54, 55, 56, 57, 97, 98, 99, 100, 101, 102])[((c.toNat : Int) % 16).toNat]'hx2).toNat] 5)).drew
    have HND := Hid.mk' (cells_drew w [Value.int .u8 92, .int .u8 117, .int .u8 48, .int .u8 48, .int .u8 ((ByteArray.mk #[48, 49, 50, 51, 52, 53, 54, 55, 56, 57, 97, 98, 99, 100, 101, 102])[((c.toNat : Int) / 16).toNat]'hx1).toNat, .int .u8 ((ByteArray.mk #[48, 49, 50, 51, 52, 53, 54, 55, 56, 57, 97, 98, 99, 100, 101, 102])[((c.toNat : Int) % 16).toNat]'hx2).toNat] 5)
    have H1 : Hid (∀ u ∈ [Value.int .u8 92, .int .u8 117, .int .u8 48, .int .u8 48, .int .u8 ((ByteArray.mk #[48, 49, 50, 51, 52, 53, 54, 55, 56, 57, 97, 98, 99, 100, 101, 102])[((c.toNat : Int) / 16).toNat]'hx1).toNat, .int .u8 ((ByteArray.mk #[48, 49, 50, 51, 52, 53, 54, 55, 56, 57, 97, 98, 99, 100, 101, 102])[((c.toNat : Int) % 16).toNat]'hx2).toNat], u.oneCell' = true) := by
      intro u hu; simp at hu; rcases hu with rfl | rfl | rfl | rfl | rfl <;> rfl
    obtain ⟨i0, hi, hz0, hz1, hz2⟩ := info_parts Tryz.infoByte
    have HG := Hid.mk' ((Goes.refl w v).alloc (.cells #[Value.int .u8 92, .int .u8 117, .int .u8 48, .int .u8 48, .int .u8 ((ByteArray.mk #[48, 49, 50, 51, 52, 53, 54, 55, 56, 57, 97, 98, 99, 100, 101, 102])[((c.toNat : Int) / 16).toNat]'hx1).toNat, .int .u8 ((ByteArray.mk #[48, 49, 50, 51, 52, 53, 54, 55, 56, 57, 97, 98, 99, 100, 101, 102])[((c.toNat : Int) % 16).toNat]'hx2).toNat] 5)).drew
    clear hown
    go_enter Tryz.func61, Tryz.ntmps61
    go_wp2_with (first | (go_at_call 75; refine (HE.out _).mono ?_; rintro e w' ⟨rfl, rfl⟩))
    go_region_held3 (fun _ => True) (trivial) ((refine step_append_lies _ (by rfl) _ _ 63 (by rfl) B 5 i0 (.int .u8 0) 1 1 Tryz.underlying63 hi hz0 hz1 hz2 rfl (by omega) v bs.length (bytesV bs) (by rfl) HOD.out ⟨w.heap.size, 0, none⟩ 6 6 [Value.int .u8 92, .int .u8 117, .int .u8 48, .int .u8 48, .int .u8 ((ByteArray.mk #[48, 49, 50, 51, 52, 53, 54, 55, 56, 57, 97, 98, 99, 100, 101, 102])[((c.toNat : Int) / 16).toNat]'hx1).toNat, .int .u8 ((ByteArray.mk #[48, 49, 50, 51, 52, 53, 54, 55, 56, 57, 97, 98, 99, 100, 101, 102])[((c.toNat : Int) % 16).toNat]'hx2).toNat] (by rfl) (by rfl) HND.out H1.out (by omega) (by unfold maxLen; omega) (by omega) (by simp; omega) (w.heap.size + 1) (by simp) ?_; intro g cap w2 hown' hgrow hat hlt'))
    all_goals
      go_wp2
      go_ret
      refine ⟨_, rfl, ?_, HG.out.append hgrow (by simpa using hat)⟩
      refine BR.snoc (m := 6) ?_ rfl
      have e : bytesV [92, 117, 48, 48, hexC (UInt8.ofNat (c.toNat / 16)), hexC (UInt8.ofNat (c.toNat % 16))] = [Value.int .u8 92, .int .u8 117, .int .u8 48, .int .u8 48, .int .u8 ((ByteArray.mk #[48, 49, 50, 51, 52, 53, 54, 55, 56, 57, 97, 98, 99, 100, 101, 102])[((c.toNat : Int) / 16).toNat]'hx1).toNat, .int .u8 ((ByteArray.mk #[48, 49, 50, 51, 52, 53, 54, 55, 56, 57, 97, 98, 99, 100, 101, 102])[((c.toNat : Int) % 16).toNat]'hx2).toNat] := by
        rw [← HX1.out, ← HX2.out]; rfl
      rw [e]
      exact hown'
  · rw [hq]
    have hlt : decide ((c.toNat : Int) < 32) = false := by rw [decide_eq_false_iff_not]; omega
    rw [h0] at HE
    clear h0 h1 hq
    have HO := Hid.mk' (hown.alloc (.cells (bytesV [c]).toArray 5))
    have HN := Hid.mk' (bytesNew w [c] 5)
    have HG := Hid.mk' ((Goes.refl w v).alloc (.cells (bytesV [c]).toArray 5))
    clear hown
    go_enter Tryz.func61, Tryz.ntmps61
    go_wp2_with (first | (go_at_call 75; refine (HE.out _).mono ?_; rintro e w' ⟨rfl, rfl⟩) | (at_builtin; refine wpList_bytes _ rfl _ _ rfl B _ bs [c] rfl HO.out ⟨w.heap.size, 0, none⟩ 1 1 rfl rfl HN.out (by omega) (by simp; omega) ?_; intro v' w2 hown' hgo))
    go_ret
    exact ⟨_, rfl, hown', HG.out.trans hgo⟩
end Go.Proofs.YtjjoedkigjekcaaGreatDoor
