/- slices.Concat of two rows of requirements. -/
import Derived.Test.YtcppmkimfoajaaaNdH
import Derived.Test.YtcppmkimfoajaaaNdD
namespace Go.Proofs.Ytcppmkimfoajaaa
open Go.RowKit
set_option linter.all false

theorem src_all {V : World} {a : Option Addr} {L : List Rq} (h : ReqsAt V a L) (hne : L ≠ []) : ∃ ad, a = some ad ∧ ∀ (j : Nat) (u : Value), (flatR L)[j]? = some u → V.cell? (ad.add j) = some u := by
  have := src_take (k := L.length) h (by rw [List.take_length]; exact hne)
  rw [List.take_length] at this
  exact this

set_option maxRecDepth 100000 in
set_option maxHeartbeats 4000000 in
theorem concat_any (B : Nat) (a b : Option Addr) (c d : Nat) (L M : List Rq) (w : World) (hB : B < w.heap.size) (hl : L.length ≤ 400) (hm : M.length ≤ 400)
    (h0 : w.cell? ⟨B, 0, none⟩ = some (.slice a L.length c)) (h1 : w.cell? ⟨B, 1, none⟩ = some (.slice b M.length d)) (hL : ReqsAt w a L) (hM : ReqsAt w b M) :
    Calls Try.prog 42 #[.slice (some ⟨B, 0, none⟩) 2 2] w (LstP (L ++ M) w) := by
  have HL := Lib.hid hL; have HM := Lib.hid hM
  obtain ⟨N, hN⟩ : ∃ N, L.length = N := ⟨_, rfl⟩
  obtain ⟨N2, hN2⟩ : ∃ N2, M.length = N2 := ⟨_, rfl⟩
  obtain ⟨S, hS⟩ : ∃ S, N + N2 = S := ⟨_, rfl⟩
  have HN := Lib.hid hN; have HN2 := Lib.hid hN2
  rw [hN] at hl h0
  rw [hN2] at hm h1
  clear hL hM hN hN2
  have s0 : IntKind.i64.wrap (0 + (N : Int)) = N := by rw [IntWalk.i64_in _ (by omega)]; omega
  have s1 : IntKind.i64.wrap ((N : Int) + (N2 : Int)) = S := by rw [IntWalk.i64_in _ (by omega)]; omega
  have n0 : ¬ (N : Int) < 0 := by omega
  have n1 : ¬ (S : Int) < 0 := by omega
  have CG := Lib.hid (grow_nil S (by omega) w)
  have H0 := Lib.hid h0; have H1 := Lib.hid h1
  clear h0 h1
  go_enter Try.func42, Try.ntmps42
  go_wp2_with fail
  go_loopw [3, 5, 11] (fun tot _ kv wr => wr = w ∧ ((kv = .int .i64 0 ∧ tot = .int .i64 0) ∨ (kv = .int .i64 1 ∧ tot = .int .i64 (N : Int)) ∨ (kv = .int .i64 2 ∧ tot = .int .i64 (S : Int)))) (fun _ _ kv _ => 2 - (intOf kv).toNat)
  case atStart => exact ⟨rfl, .inl ⟨rfl, rfl⟩⟩
  case round =>
    obtain ⟨hwe, hr⟩ := hrel
    subst wr
    rcases hr with ⟨rfl, rfl⟩ | ⟨rfl, rfl⟩ | ⟨rfl, rfl⟩
    · have c0 := H0.out
      go_wp2_with fail
      go_roundw
      case rel => exact ⟨trivial, .inr (.inl ⟨rfl, rfl⟩)⟩
      case measure => simp [intOf]
    · have c1 := H1.out
      go_wp2_with fail
      go_roundw
      case rel => exact ⟨trivial, .inr (.inr ⟨rfl, rfl⟩)⟩
      case measure => simp [intOf]
    · go_wp2_with fail
      refine (CG.out).mono ?_
      rintro e w1 ⟨v1, rfl, ho1, hb1⟩
      have HO1 := Lib.hid ho1; have HB1 := Lib.hid hb1
      clear ho1 hb1
      go_wp2_with fail
      go_loopw [6, 8, 27] (fun v _ kv w2 => Below w.heap.size w w2 ∧ ((kv = .int .i64 0 ∧ w2.ownsRow w.heap.size 87 2 v 0 (flatR [])) ∨ (kv = .int .i64 1 ∧ w2.ownsRow w.heap.size 87 2 v N (flatR L)) ∨ (kv = .int .i64 2 ∧ w2.ownsRow w.heap.size 87 2 v (N + N2) (flatR (L ++ M))))) (fun _ _ kv _ => 2 - (intOf kv).toNat)
      case atStart => exact ⟨HB1.out, .inl ⟨rfl, HO1.out⟩⟩
      case round =>
        clear HO1 HB1
        obtain ⟨hb, hr⟩ := hrel
        have hwl := hb.size
        rcases hr with ⟨rfl, ho⟩ | ⟨rfl, ho⟩ | ⟨rfl, ho⟩
        · have c0 := (hb.cell (p := ⟨B, 0, none⟩) hB).trans H0.out
          have HS1 := Lib.hid (HL.out.step hb)
          have HO := Lib.hid ho; have HB := Lib.hid hb
          clear ho hb
          have tok1 : True := trivial
          go_wp2_with (first | (at_builtin; have _t := tok1; refine wpList_apprq rfl (.tmp 31) (.tmp 32) (.inl ⟨_, rfl⟩) ⟨_, rfl⟩ rfl rfl w.heap.size u6 0 [] L rfl HO.out a c (by rw [HN.out]; rfl) (fun hne => src_all HS1.out hne) (by rw [HN.out]; omega) hwl ?_; intro v3 w3 ho3 hg3 hb3; have HO3 := Lib.hid ho3; have HB3 := Lib.hid (HB.out.trans hb3); clear ho3 hg3 hb3 tok1))
          go_roundw
          case rel => exact ⟨HB3.out, .inr (.inl ⟨rfl, by have := HO3.out; rw [HN.out, Nat.zero_add, List.nil_append] at this; exact this⟩)⟩
          case measure => simp [intOf]
        · have c1 := (hb.cell (p := ⟨B, 1, none⟩) hB).trans H1.out
          have HS1 := Lib.hid (HM.out.step hb)
          have HO := Lib.hid ho; have HB := Lib.hid hb
          clear ho hb
          have tok1 : True := trivial
          go_wp2_with (first | (at_builtin; have _t := tok1; refine wpList_apprq rfl (.tmp 31) (.tmp 32) (.inl ⟨_, rfl⟩) ⟨_, rfl⟩ rfl rfl w.heap.size u6 N L M rfl HO.out b d (by rw [HN2.out]; rfl) (fun hne => src_all HS1.out hne) (by rw [HN2.out]; omega) hwl ?_; intro v3 w3 ho3 hg3 hb3; have HO3 := Lib.hid ho3; have HB3 := Lib.hid (HB.out.trans hb3); clear ho3 hg3 hb3 tok1))
          go_roundw
          case rel => exact ⟨HB3.out, .inr (.inr ⟨rfl, by have := HO3.out; rw [HN2.out] at this; exact this⟩)⟩
          case measure => simp [intOf]
        · obtain ⟨af, cf, ef, hcf, hRf, hbf⟩ := reqs_of_own ho (by rw [List.length_append, HN.out, HN2.out])
          have HR := Lib.hid hRf; have HC := Lib.hid hcf; have HBE := Lib.hid hb; have HBF := Lib.hid hbf
          subst ef
          clear ho hb hRf hcf hbf
          go_wp2_with fail
          go_ret
          have hll : (L ++ M).length = N + N2 := by rw [List.length_append, HN.out, HN2.out]
          exact ⟨af, cf, by rw [hll]; rfl, by rw [hll]; exact HC.out, HR.out, HBE.out, HBF.out⟩
end Go.Proofs.Ytcppmkimfoajaaa
