import PyProof.Rows.All
import Wide.All
import OpenK.AllK
import Wide.FinOn
import HandS.ForMost
import HandS.Wide
import HandS.Codes
import PySem.Challenge.RW_dotread_k02_parts_and_turns
import PyProof.TypeEq
import PyProof.InstEq
import PyProof.StrBlock2
import HandS.TupMul
import HandS.TupAny
import HandS.More
import HandS.ForExc
import HandS.ExcValue
import HandS.ExcIs
import HandS.Lambda
import PyProof.ListStr
import HandS.EndTab
import PyProof.ReprRoads
import HandS.Zip
import KE.GoesMore
import KE.GoesZip
import KE.GoesEnum
import HandS.Deep
import HandS.SetFor
import KE.KDictZip
import HandS.Star
import HandS.Style
import KE.KRevSl
import HandS.StrMore
import PyProof.StrLawsLast
set_option Elab.async false
set_option linter.all false
set_option maxRecDepth 100000
set_option maxHeartbeats 4000000
namespace Dt
open PySem PySem.Spec PyProof.Rows L2
def topS (i : Nat) : Stmt := PySem.Challenge.pw_dotread_k02_parts_and_turns.main.body.getD i (.Pass ⟨0, 0, 0, 0⟩)
/-! ### the drawing dict -/
def drK (g c : Addr) (r t : Int) : List (Key × V) := [(.inr "great", .ref g), (.inr "rest", .int r), (.inr "cells", .ref c), (.inr "turn", .int t)]
theorem n1 : ¬ (("great" : Str) = "rest") := by decide +kernel
theorem n2 : ¬ (("great" : Str) = "cells") := by decide +kernel
theorem n3 : ¬ (("great" : Str) = "turn") := by decide +kernel
theorem n4 : ¬ (("rest" : Str) = "cells") := by decide +kernel
theorem n5 : ¬ (("rest" : Str) = "turn") := by decide +kernel
theorem n6 : ¬ (("cells" : Str) = "turn") := by decide +kernel
theorem inr_ne {a b : Str} (h : ¬ a = b) : ¬ (Sum.inr a : Key) = Sum.inr b := fun z => h (Sum.inr.inj z)
section
variable (g c : Addr) (r t z : Int)
theorem v_great : valV (drK g c r t) (Sum.inr "great" : Key) = some (.ref g) := valV_pos rfl
theorem v_rest : valV (drK g c r t) (Sum.inr "rest" : Key) = some (.int r) := (valV_neg (inr_ne n1)).trans (valV_pos rfl)
theorem v_cells : valV (drK g c r t) (Sum.inr "cells" : Key) = some (.ref c) := (valV_neg (inr_ne n2)).trans ((valV_neg (inr_ne n4)).trans (valV_pos rfl))
theorem v_turn : valV (drK g c r t) (Sum.inr "turn" : Key) = some (.int t) := (valV_neg (inr_ne n3)).trans ((valV_neg (inr_ne n5)).trans ((valV_neg (inr_ne n6)).trans (valV_pos rfl)))
theorem put_rest : putK (drK g c r t) (Sum.inr "rest" : Key) (.int z) = drK g c z t := by
  unfold putK
  rw [valV_any, v_rest]
  have m4 := fun q : ("cells" : Str) = "rest" => n4 q.symm
  have m5 := fun q : ("turn" : Str) = "rest" => n5 q.symm
  rw [if_pos (show (some (V.int r)).isSome = true from rfl)]
  unfold drK
  simp only [List.map_cons, List.map_nil, inr_ne n1, if_true, if_false, if_neg (inr_ne fun q => m4 q), if_neg (inr_ne fun q => m5 q)]
theorem put_turn : putK (drK g c r t) (Sum.inr "turn" : Key) (.int z) = drK g c r z := by
  unfold putK
  rw [valV_any, v_turn, if_pos (show (some (V.int t)).isSome = true from rfl)]
  unfold drK
  simp only [List.map_cons, List.map_nil, inr_ne n3, inr_ne n5, inr_ne n6, if_true, if_false]
end
structure Dr (H : Hp) (d g c : Addr) : Prop where
  dk : ∃ r t, H d = some (.dK (drK g c r t))
  gl : ∃ gs : List Int, H g = some (.lst (gs.map V.int)) ∧ gs.length ≤ 63
  cl : ∃ cs : List Int, H c = some (.lst (cs.map V.int)) ∧ 0 < cs.length ∧ cs.length ≤ 64
  gc : g ≠ c
/-- all but d and g stays -/
def Dn (d g : Addr) (H H' : Hp) : Prop := ∀ b o, H b = some o → b ≠ d → b ≠ g → H' b = some o
theorem Dn.refl {d g : Addr} {H : Hp} : Dn d g H H := fun _ _ e _ _ => e
theorem Dn.trans {d g : Addr} {H H1 H2 : Hp} (a : Dn d g H H1) (b : Dn d g H1 H2) : Dn d g H H2 := fun x o e h1 h2 => b x o (a x o e h1 h2) h1 h2
theorem Dn.same {d g : Addr} {H H' : Hp} (a : Same H H') : Dn d g H H' := fun b o e _ _ => a b o e
theorem same_upd {H : Hp} {p : Addr} {o : HO} (h : H p = none) : Same H (upd H p o) := fun b x e => by
  rw [upd_ne (ne_of_none e h)]
  exact e
theorem Dr.dg {H : Hp} {d g c : Addr} (D : Dr H d g c) : d ≠ g := by
  obtain ⟨⟨r, t, h1⟩, ⟨gs, h2, _⟩, _, _⟩ := D
  exact ne_of h1 h2 (by intro z; cases z)
theorem Dr.dc {H : Hp} {d g c : Addr} (D : Dr H d g c) : d ≠ c := by
  obtain ⟨⟨r, t, h1⟩, _, ⟨gs, h2, _⟩, _⟩ := D
  exact ne_of h1 h2 (by intro z; cases z)
theorem Dr.same {H H' : Hp} {d g c : Addr} (D : Dr H d g c) (s : Same H H') : Dr H' d g c := by
  obtain ⟨⟨r, t, h1⟩, ⟨gs, h2, h3⟩, ⟨cs, h4, h5⟩, h6⟩ := D
  exact ⟨⟨r, t, s _ _ h1⟩, ⟨gs, s _ _ h2, h3⟩, ⟨cs, s _ _ h4, h5⟩, h6⟩
theorem Dn.nn {d g c p : Addr} {H H' : Hp} (a : Dn d g H H') (D : Dr H' d g c) (h : H' p = none) : H p = none := by
  cases e : H p with
  | none => rfl
  | some o =>
    have h1 : p ≠ d := by
      rintro rfl
      obtain ⟨⟨r, t, q⟩, _⟩ := D
      rw [q] at h
      cases h
    have h2 : p ≠ g := by
      rintro rfl
      obtain ⟨_, ⟨gs, q, _⟩, _⟩ := D
      rw [q] at h
      cases h
    rw [a _ _ e h1 h2] at h
    cases h
section
variable {H : Hp} {d g c : Addr} {r t : Int} (h : H d = some (.dK (drK g c r t)))
include h
theorem get_great : DGet H d (.str "great") (some (.ref g)) := by
  have z := DGet.k (k := (Sum.inr "great" : Key)) h
  rw [v_great] at z
  exact z
theorem get_rest : DGet H d (.str "rest") (some (.int r)) := by
  have z := DGet.k (k := (Sum.inr "rest" : Key)) h
  rw [v_rest] at z
  exact z
theorem get_cells : DGet H d (.str "cells") (some (.ref c)) := by
  have z := DGet.k (k := (Sum.inr "cells" : Key)) h
  rw [v_cells] at z
  exact z
theorem get_turn : DGet H d (.str "turn") (some (.int t)) := by
  have z := DGet.k (k := (Sum.inr "turn" : Key)) h
  rw [v_turn] at z
  exact z
theorem dput_rest {z : Int} : DPut H d (.str "rest") (.int z) (upd H d (.dK (drK g c z t))) := by
  have q := DPut.k (k := (Sum.inr "rest" : Key)) (v := .int z) h (by show 4 < sizeLine; decide)
  rw [put_rest] at q
  exact q
theorem dput_turn {z : Int} : DPut H d (.str "turn") (.int z) (upd H d (.dK (drK g c r z))) := by
  have q := DPut.k (k := (Sum.inr "turn" : Key)) (v := .int z) h (by show 4 < sizeLine; decide)
  rw [put_turn] at q
  exact q
end
theorem dpInts {K : PySem.W.Frag} {H : Hp} : ∀ ns : List Int, DpAll K H (ns.map V.int) (ns.map PyData.int)
  | [] => .nil
  | n :: r => .cons (.int n) (dpInts r)
/-! ### _law_next -/
abbrev sNext : Stmt := topS 36
theorem scNext : FnScope ["draw", "below", "number", "turn", "stock", "made", "prime"] ["draw", "below"] (defScope sNext) := ⟨rfl, rfl, rfl, by decide +kernel, rfl, by decide +kernel, by decide +kernel⟩
def spNext : Sp := fun vs H Q _ => ∃ (d g c : Addr) (b : Int), vs = [.ref d, .int b] ∧ Dr H d g c ∧ 0 < b ∧ b < 1073741824 ∧ ∀ (n : Int) (H' : Hp), 0 ≤ n → n < b → Dr H' d g c → Dn d g H H' → Q (.int n) H'
section
variable {P : Program} {w : World} {K : PySem.W.Frag} {mg : Str → Option Value} {base : Heap}
theorem ok_next {f : Addr} {fd : FuncData} {k : Nat} (F : Fun K "_law_next" "_law_next" sNext f fd) (ml : mg "len" = none) : FnOk P w K mg base CX0 (k + 1) f fd ["draw", "below"] spNext := by
  refine F.ok scNext (fun vs H Q E h => ?_) (fun cdv A outer s H vs Q E hr h => ?_)
  · obtain ⟨d, g, c, b, rfl, _⟩ := h
    rfl
  · obtain ⟨d, g, c, b, rfl, D, hb0, hb1, q⟩ := h
    have hu := hu_of hr
    have nd := scNext.nd
    refine ⟨_, C8.pss_cut (ps_if (PW.pt (pw_and (pt_cmpR op_lt (pe_dget hu (pv 0) pe_str (fun _ _ => rfl)) pe_int (nomark _)) (pw_and1 (pt_cmpR (op_neD hr.units) (pe_dget hu (pv 0) pe_str (fun _ _ => rfl)) (pe_lst pa_nil) (nomark _)))))
        (pss_one (ps_dput hu (pv 0) pe_str (pe_bm PySem.F.plainAttrs_list PySem.F.slot_list_pop PySem.F.type_list_pop mt_popAt (pe_dget hu (pv 0) pe_str (fun _ _ => rfl)) (pa_cons pe_int pa_nil)) rfl)) pss_nil)
      (pss_cons (ps_if (pt_cmpR op_gt (pe_dget hu (pv 0) pe_str (fun _ _ => rfl)) pe_int (nomark _))
        (pss_cons (ps_set (i := 2) nd rfl (.inl rfl) (pe_op op_mod (pe_dget hu (pv 0) pe_str (fun _ _ => rfl)) (pv 1)))
        (pss_cons (ps_dput hu (pv 0) pe_str (pe_op op_fdiv (pe_dget hu (pv 0) pe_str (fun _ _ => rfl)) (pv 1)) rfl)
        (pss_one (ps_ret (pv 2))))) pss_nil)
      (pss_cons (ps_par (i := 3) (j := 4) (by rfl) nd rfl rfl (by decide) rfl rfl (pa_cons (pe_dget hu (pv 0) pe_str (fun _ _ => rfl)) (pa_cons (pe_dget hu (pv 0) pe_str (fun _ _ => rfl)) pa_nil)) (by rfl))
      (pss_cons (ps_dput hu (pv 0) pe_str (pe_op op_add (pv 3) pe_int) rfl)
      (pss_cons (ps_set (i := 5) nd rfl (.inl rfl) (pe_op op_mod (pe_op op_mul (pe_op op_add (pe_op op_add (pe_ix ix_list (pv 4) (pe_op op_mod (pv 3) (pe_callB call_len_seq (by rfl) ml PySem.boot_len (pa_cons (pv 4) pa_nil))) (fun _ _ => rfl)) (pe_op op_mul pe_int (pv 3))) pe_int) pe_int) pe_int))
      (pss_cons (ps_set (i := 6) nd rfl (.inl rfl) (pe_ix ix_list (pe_lst (pa_cons pe_int (pa_cons pe_int (pa_cons pe_int (pa_cons pe_int (pa_cons pe_int pa_nil)))))) (pe_op op_mod (pv 3) pe_int) (fun _ _ => rfl)))
      (pss_one (ps_ret (pe_op op_mod (pe_op op_fdiv (pe_op op_mod (pe_op op_mul (pv 5) (pe_op op_add (pe_op op_add (pv 5) (pe_op op_mul pe_int (pv 3))) pe_int)) (pv 6)) pe_int) (pv 1))))))))), ?_⟩
    obtain ⟨⟨r, t, hd⟩, ⟨gs, hg, lg⟩, ⟨cs, hc, lc0, lc⟩, gc⟩ := id D
    refine ⟨fun σ' H' => σ' = [some (.ref d), some (.int b), none, none, none, none, none] ∧ Dr H' d g c ∧ Dn d g H H', ?_, ?_⟩
    · refine ⟨.ref d, rfl, d, .int r, rfl, get_rest hd, r, 2, rfl, rfl, _, rfl, ite2 (fun e => ?_) (fun e => iteF ⟨rfl, D, Dn.refl⟩)⟩
      refine ⟨.ref d, rfl, d, .ref g, rfl, get_great hd, ?_⟩
      refine ⟨by show 0 ≤ sizeLine; decide, fun p hp => ?_⟩
      refine ⟨.list (gs.map PyData.int), .list [], .lst (SqL.of ((same_upd hp) _ _ hg)) (dpInts gs), .lst (SqL.of upd_same) .nil, PySem.W.ke_shaped_ints gs, by decide +kernel, _, rfl, ?_⟩
      have D1 := D.same (same_upd (o := .lst []) hp)
      cases gs with
      | nil => exact iteF ⟨rfl, D1, Dn.same (same_upd hp)⟩
      | cons z zs =>
        refine iteT ?_
        have hg1 := (same_upd (o := .lst []) hp) _ _ hg
        have hd1 := (same_upd (o := .lst []) hp) _ _ hd
        have hc1 := (same_upd (o := .lst []) hp) _ _ hc
        have hd2 : (upd (upd H p (.lst [])) g (.lst (((z :: zs).map V.int).eraseIdx 0))) d = some (.dK (drK g c r t)) := by
          rw [upd_ne D.dg]
          exact hd1
        have sq0 : seqIndex? 0 ((z :: zs).map V.int).length = some 0 := by simp [seqIndex?]
        refine ⟨.ref d, rfl, d, .ref g, rfl, get_great hd1, .inl ⟨rfl, _, SqL.of hg1⟩, g, _, 0, 0, .int z, rfl, rfl, hg1, by decide, by decide, sq0, rfl, .ref d, rfl, d, _, rfl, dput_rest hd2, rfl, ⟨⟨z, t, upd_same⟩, ⟨zs, ?_, ?_⟩, ⟨cs, ?_, lc0, lc⟩, gc⟩, ?_⟩
        · rw [upd_ne D.dg.symm, upd_same]
          rfl
        · simp only [List.length_cons] at lg
          omega
        · rw [upd_ne D.dc.symm, upd_ne gc.symm]
          exact hc1
        · intro b' o e' h1 h2
          rw [upd_ne h1, upd_ne h2]
          exact (same_upd hp) _ _ e'
    · rintro σ' H1 ⟨rfl, D1, dn⟩
      obtain ⟨⟨r1, t1, hd1⟩, ⟨gs1, hg1, lg1⟩, ⟨cs1, hc1, lc01, lc1⟩, gc1⟩ := id D1
      refine ⟨.ref d, rfl, d, .int r1, rfl, get_rest hd1, r1, 1, rfl, rfl, _, rfl, ite2 (fun e => ?_) (fun e => ?_)⟩
      · refine ⟨.ref d, rfl, d, .int r1, rfl, get_rest hd1, .int b, rfl, r1, b, rfl, rfl, hb0, ?_⟩
        refine ⟨.ref d, rfl, d, .int r1, rfl, get_rest hd1, .int b, rfl, r1, b, rfl, rfl, ⟨hb0, hb1⟩, .ref d, rfl, d, _, rfl, dput_rest hd1, .int (r1 % b), rfl, q _ _ (Int.emod_nonneg _ (by omega)) (Int.emod_lt_of_pos _ hb0) ⟨⟨_, t1, upd_same⟩, ⟨gs1, ?_, lg1⟩, ⟨cs1, ?_, lc01, lc1⟩, gc1⟩ ?_⟩
        · rw [upd_ne D1.dg.symm]
          exact hg1
        · rw [upd_ne D1.dc.symm]
          exact hc1
        · intro b' o e' h1 h2
          rw [upd_ne h1]
          exact dn _ _ e' h1 h2
      · refine ⟨.ref d, rfl, d, .int t1, rfl, get_turn hd1, .ref d, rfl, d, .ref c, rfl, get_cells hd1, .int t1, .ref c, rfl, ?_⟩
        refine ⟨.int t1, rfl, t1, 1, rfl, rfl, .ref d, rfl, d, _, rfl, dput_turn hd1, ?_⟩
        have hc2 : (upd H1 d (.dK (drK g c r1 (t1 + 1)))) c = some (.lst (cs1.map V.int)) := by
          rw [upd_ne D1.dc.symm]
          exact hc1
        have hlen : ((cs1.map V.int).length : Int) = (cs1.length : Int) := by rw [List.length_map]
        have hpos : (0 : Int) < ((cs1.map V.int).length : Int) := by omega
        have m0 : 0 ≤ t1 % ((cs1.map V.int).length : Int) := Int.emod_nonneg _ (by omega)
        have m1 := Int.emod_lt_of_pos t1 hpos
        obtain ⟨j, hj⟩ := Int.eq_ofNat_of_zero_le m0
        have hj2 : j < cs1.length := by omega
        have hat : atI (cs1.map V.int) (t1 % ((cs1.map V.int).length : Int)) = some (.int cs1[j]) := by
          rw [hj]
          refine atI_nat ?_
          rw [List.getElem?_map, List.getElem?_eq_getElem hj2]
          rfl
        refine ⟨.ref c, rfl, .int t1, rfl, .ref c, rfl, c, _, rfl, .inl (SqL.of hc2), t1, _, rfl, rfl, hpos, c, _, _, .int cs1[j], rfl, rfl, SqL.of hc2, hat, .int t1, rfl, 1299721, t1, rfl, rfl, .inl ⟨by decide, by decide⟩, _, _, rfl, rfl, _, _, rfl, rfl, _, _, rfl, rfl, .inr ⟨by decide, by decide⟩, _, _, rfl, rfl, (by show (0 : Int) < 2147483647; decide), ?_⟩
        have hpr : ∃ z : Int, 0 < z ∧ atI [V.int 2147483629, V.int 2147483587, V.int 2147483579, V.int 2147483563, V.int 2147483549] (t1 % 5) = some (.int z) := by
          have a0 := Int.emod_nonneg t1 (show (5 : Int) ≠ 0 by decide)
          have a1 := Int.emod_lt_of_pos t1 (show (0 : Int) < 5 by decide)
          rcases (show t1 % 5 = 0 ∨ t1 % 5 = 1 ∨ t1 % 5 = 2 ∨ t1 % 5 = 3 ∨ t1 % 5 = 4 by omega) with x | x | x | x | x <;> rw [x]
          · exact ⟨2147483629, by decide, rfl⟩
          · exact ⟨2147483587, by decide, rfl⟩
          · exact ⟨2147483579, by decide, rfl⟩
          · exact ⟨2147483563, by decide, rfl⟩
          · exact ⟨2147483549, by decide, rfl⟩
        obtain ⟨z, hz, hat2⟩ := hpr
        refine ⟨by show 5 ≤ sizeLine; decide, fun l hl => ⟨.int t1, rfl, t1, 5, rfl, rfl, (by show (0 : Int) < 5; decide), l, _, _, .int z, rfl, rfl, SqL.of upd_same, hat2, ?_⟩⟩
        have mm0 := Int.emod_nonneg ((cs1[j] + 1299721 * t1 + 7919) * 48271) (show (2147483647 : Int) ≠ 0 by decide)
        have mm1 := Int.emod_lt_of_pos ((cs1[j] + 1299721 * t1 + 7919) * 48271) (show (0 : Int) < 2147483647 by decide)
        have dl := same_upd (o := .lst [V.int 2147483629, V.int 2147483587, V.int 2147483579, V.int 2147483563, V.int 2147483549]) hl
        refine ⟨_, rfl, _, rfl, .int t1, rfl, 2, t1, rfl, rfl, .inl ⟨by decide, by decide⟩, _, _, rfl, rfl, _, _, rfl, rfl, _, _, rfl, rfl, .inl ⟨by omega, by omega⟩, .int z, rfl, _, _, rfl, rfl, hz, _, _, rfl, rfl, ⟨by decide, by decide⟩, .int b, rfl, _, _, rfl, rfl, hb0, q _ _ (Int.emod_nonneg _ (by omega)) (Int.emod_lt_of_pos _ hb0) ?_ ?_⟩
        · refine Dr.same ⟨⟨_, _, upd_same⟩, ⟨gs1, ?_, lg1⟩, ⟨cs1, hc2, lc01, lc1⟩, gc1⟩ dl
          rw [upd_ne D1.dg.symm]
          exact hg1
        · intro b' o e' h1 h2
          refine dl _ _ ?_
          rw [upd_ne h1]
          exact dn _ _ e' h1 h2
end
end Dt
/-! rules of our own: types compared, a text times a number -/
namespace TyNe
open PySem PySem.TypeEq
open Sem (wp)
open Builtin
theorem slot_type_ne : Slot "type" (cmpInfo .NotEq).2.1 "object.__ne__" :=
  .of (owner := "object") (n := "__ne__") (by rw [typeLookup_type, builtinLookup_eq_fast]; kernel_rfl) (by decide +kernel) (by decide +kernel) (by decide +kernel)
    (by first | exact .inl (by decide +kernel) | exact .inr (by decide +kernel)) (by rw [isSubtype_type]; kernel_rfl)
theorem slot_type_ne2 : Slot "type" (cmpInfo .NotEq).2.2 "object.__ne__" :=
  .of (owner := "object") (n := "__ne__") (by rw [typeLookup_type, builtinLookup_eq_fast]; kernel_rfl) (by decide +kernel) (by decide +kernel) (by decide +kernel)
    (by first | exact .inl (by decide +kernel) | exact .inr (by decide +kernel)) (by rw [isSubtype_type]; kernel_rfl)
section
variable {prog : Program} {w : World} {A : Around} {E : Value → Shared → Prop} {s : Shared}
theorem call_ne_same {X : String} {Q : Value → Shared → Prop} (hX : ∀ s' : Shared, s'.TypeIs (.type X) "type") (h : Q (.bool false) s) : wpAny (model prog w) A (call (.builtin "object.__ne__") [.type X, .type X]) Q E s := by
  refine wpAny_call (codeAny_call_builtin slot_type_ne.plain F.cmpEntry_ne (slot_type_ne.check _ _ _ _ _ _ _ _ (hX s) (F.cmpArgs_ne _ _) ?_))
  unfold Builtin.«object.__ne__»
  repeat (first
    | with_reducible refine wpAny_cRoomFor_or (.inl rfl) ?_
    | (refine wpAny_bind (m := callSpecialIfBound? (.type X) (Str.ofString "__eq__") [.type X])
        (wpAny_callSpecialIfBound?_slot (hX _) slot_type_eq (call_gives slot_type_eq (hX _) F.entry_object_eq (F.args_object_eq_2 _ _) (object_eq_same rfl (by simp)) ?_)))
    | wp_step)
  show wpAny (model prog w) A.in1 (truthy (.bool true) >>= fun b => ret (.bool !b)) _ _ _
  exact wpAny_bind (wpAny_truthy_bool (wpAny_pure h))
theorem call_ne_other {X Y : String} {Q : Value → Shared → Prop} (hX : ∀ s' : Shared, s'.TypeIs (.type X) "type") (hne : (Value.type X == Value.type Y) = false) (h : Q .notImplemented s) : wpAny (model prog w) A (call (.builtin "object.__ne__") [.type X, .type Y]) Q E s := by
  refine wpAny_call (codeAny_call_builtin slot_type_ne.plain F.cmpEntry_ne (slot_type_ne.check _ _ _ _ _ _ _ _ (hX s) (F.cmpArgs_ne _ _) ?_))
  unfold Builtin.«object.__ne__»
  repeat (first
    | with_reducible refine wpAny_cRoomFor_or (.inl rfl) ?_
    | (refine wpAny_bind (m := callSpecialIfBound? (.type X) (Str.ofString "__eq__") [.type Y])
        (wpAny_callSpecialIfBound?_slot (hX _) slot_type_eq (call_gives slot_type_eq (hX _) F.entry_object_eq (F.args_object_eq_2 _ _) (object_eq_other rfl hne) ?_)))
    | wp_step)
  show wpAny (model prog w) A.in1 (ret .notImplemented) _ _ _
  exact wpAny_pure h
theorem ne_type_same {X : String} {Q : Value → Shared → Prop} (hX : ∀ s' : Shared, s'.TypeIs (.type X) "type") (h : Q (.bool false) s) : wpAny (model prog w) A (compareOp .NotEq (.type X) (.type X)) Q E s := by
  show wpAny _ A (richCompare .NotEq _ _) Q E s
  exact wpAny_richCompare_same (T := "type") (hX s) (hX s) slot_type_ne (call_ne_same hX ⟨(by intro e; cases e), h⟩)
theorem ne_type_other {X Y : String} {Q : Value → Shared → Prop} (hX : ∀ s' : Shared, s'.TypeIs (.type X) "type") (hY : ∀ s' : Shared, s'.TypeIs (.type Y) "type") (hne : (Value.type X == Value.type Y) = false) (h : Q (.bool true) s) :
    wpAny (model prog w) A (compareOp .NotEq (.type X) (.type Y)) Q E s := by
  have hne' : (Value.type Y == Value.type X) = false := by
    rw [Bool.eq_false_iff] at hne ⊢
    intro e
    exact hne (by rw [beq_iff_eq] at e ⊢; exact e.symm)
  show wpAny _ A (richCompare .NotEq _ _) Q E s
  have h1 := slot_type_ne
  have h2 := slot_type_ne2
  rcases hi : cmpInfo CmpOp.NotEq with ⟨sym, f, r⟩
  rw [hi] at h1 h2
  simp only [richCompare, hi, (hX s).oneThing_none]
  try with_reducible refine wpAny_holding ?_
  refine wpAny_bind (wpAny_cRoomFor_or (.inl rfl) ?_)
  refine wpAny_bind (wpAny_typeOf (hX s) (wpAny_bind (wpAny_typeOf (hY s) ?_)))
  simp only [bne_self_eq_false, Bool.false_eq_true, if_false, pure_bind, Bool.not_false, if_true]
  refine wpAny_bind (m := tryCompare _ _ _) (wpAny_tryCompare_declines (hX s) h1 (call_ne_other hX hne ⟨rfl, ?_⟩))
  refine wpAny_bind (m := tryCompare _ _ _) (wpAny_tryCompare_declines (hY _) h2 (call_ne_other hY hne' ⟨rfl, ?_⟩))
  refine wpAny_bind (wpAny_rule (wpAny_bind (wpAny_of_eq (a := false) (by rw [isSame_plain rfl, hne]) (wpAny_pure h))))
end
end TyNe
namespace L2X
open PySem PySem.Spec PyProof.Rows L2
/-- the built-in classes that are compared here -/
def tyOk (a : String) : Bool := a = "int" ∨ a = "str" ∨ a = "bool" ∨ a = "NoneType" ∨ a = "list" ∨ a = "tuple" ∨ a = "dict"
theorem tyOk_is {a : String} (h : tyOk a = true) : ∀ s' : Shared, s'.TypeIs (.type a) "type" := by
  unfold tyOk at h
  rcases of_decide_eq_true h with rfl | rfl | rfl | rfl | rfl | rfl | rfl
  · exact TypeEq.meta_int
  · exact TypeEq.meta_str
  · exact TypeEq.meta_bool
  · exact TypeEq.meta_NoneType
  · exact TypeEq.meta_list
  · exact TypeEq.meta_tuple
  · exact TypeEq.meta_dict
theorem ty_ne {a b : String} (h : a ≠ b) : (Value.type a == Value.type b) = false := beq_eq_false_iff_ne.mpr fun z => h (Value.type.inj z)
def rTyC (g : Bool → Bool) : R2 := fun x y H Q => ∃ a b, x = .ty a ∧ y = .ty b ∧ tyOk a = true ∧ tyOk b = true ∧ Q (.bl (g (decide (a = b)))) H
section
variable {X : Cx}
theorem op_eq_ty : OpR X (compareOp .Eq) (rTyC id) := by
  intro pins s σ H x y v u Q I rx ry h
  obtain ⟨a, b, rfl, rfl, ha, hb, q⟩ := h
  cases (show v = Value.type a from rx)
  cases (show u = Value.type b from ry)
  by_cases e : a = b
  · subst e
    refine TypeEq.eq_type_same (tyOk_is ha) ⟨.bl true, H, I, rfl, ?_⟩
    rw [decide_eq_true rfl] at q
    exact q
  · refine TypeEq.eq_type_other (tyOk_is ha) (tyOk_is hb) (ty_ne e) ⟨.bl false, H, I, rfl, ?_⟩
    rw [decide_eq_false e] at q
    exact q
theorem op_ne_ty : OpR X (compareOp .NotEq) (rTyC not) := by
  intro pins s σ H x y v u Q I rx ry h
  obtain ⟨a, b, rfl, rfl, ha, hb, q⟩ := h
  cases (show v = Value.type a from rx)
  cases (show u = Value.type b from ry)
  by_cases e : a = b
  · subst e
    refine TyNe.ne_type_same (tyOk_is ha) ⟨.bl false, H, I, rfl, ?_⟩
    rw [decide_eq_true rfl] at q
    exact q
  · refine TyNe.ne_type_other (tyOk_is ha) (tyOk_is hb) (ty_ne e) ⟨.bl true, H, I, rfl, ?_⟩
    rw [decide_eq_false e] at q
    exact q
/-- text * n -/
theorem op_mul_str : OpR X (binaryOp .Mult) (fun x y H Q => ∃ z n, x = .str z ∧ y = .int n ∧ MulOk z n ∧ Q (.str (Txt.mul z n)) H) := by
  intro pins s σ H x y v u Q I rx ry h
  obtain ⟨z, n, rfl, rfl, hk, q⟩ := h
  obtain ⟨t, rfl⟩ := rx
  obtain ⟨t', rfl⟩ := ry
  exact SB.mul hk fun t' k => ⟨.str _, H, I.tok _, ⟨_, rfl⟩, q⟩
end
end L2X
namespace Dt
open PySem PySem.Spec PyProof.Rows L2 L2X
open SX (S)
/-- the built-ins that are named in the text -/
structure Tx (mg : Str → Option Value) : Prop where
  len : mg "len" = none
  range : mg "range" = none
  tuple : mg "tuple" = none
  list : mg "list" = none
  int : mg "int" = none
/-! ### _law_begun -/
abbrev sBegun : Stmt := topS 35
theorem scBegun : FnScope ["script", "great", "cell"] ["script"] (defScope sBegun) := ⟨rfl, rfl, rfl, by decide +kernel, rfl, by decide +kernel, by decide +kernel⟩
def spBegun (K : PySem.W.Frag) : Sp := fun vs H Q _ => ∃ (a : Addr) (ns : List Int), vs = [.ref a] ∧ SqL K H a (ns.map V.int) ∧ ns.length ≤ 63 ∧ ∀ (d g c : Addr) (H' : Hp), Same H H' → H d = none → H g = none → Dr H' d g c → Q (.ref d) H'
section
variable {P : Program} {w : World} {K : PySem.W.Frag} {mg : Str → Option Value} {base : Heap}
theorem merge_dr (g c : Addr) (r t : Int) : mergeK [] (drK g c r t) = drK g c r t := by
  have a1 : putK ([] : List (Key × V)) (.inr "great") (.ref g) = [(.inr "great", .ref g)] := putK_new _ rfl
  have a2 : putK [((.inr "great" : Key), V.ref g)] (.inr "rest") (.int r) = [(.inr "great", .ref g), (.inr "rest", .int r)] := putK_new _ ((valV_neg (inr_ne n1)).trans rfl)
  have a3 : putK [((.inr "great" : Key), V.ref g), (.inr "rest", .int r)] (.inr "cells") (.ref c) = [(.inr "great", .ref g), (.inr "rest", .int r), (.inr "cells", .ref c)] := putK_new _ ((valV_neg (inr_ne n2)).trans ((valV_neg (inr_ne n4)).trans rfl))
  have a4 : putK [((.inr "great" : Key), V.ref g), (.inr "rest", .int r), (.inr "cells", .ref c)] (.inr "turn") (.int t) = [(.inr "great", .ref g), (.inr "rest", .int r), (.inr "cells", .ref c), (.inr "turn", .int t)] :=
    putK_new _ ((valV_neg (inr_ne n3)).trans ((valV_neg (inr_ne n5)).trans ((valV_neg (inr_ne n6)).trans rfl)))
  show putK (putK (putK (putK ([] : List (Key × V)) (.inr "great") (.ref g)) (.inr "rest") (.int r)) (.inr "cells") (.ref c)) (.inr "turn") (.int t) = _
  rw [a1, a2, a3, a4]
  rfl
theorem ok_begun {f : Addr} {fd : FuncData} {k : Nat} (F : Fun K "_law_begun" "_law_begun" sBegun f fd) (T : Tx mg) : FnOk P w K mg base CX0 (k + 1) f fd ["script"] (spBegun K) := by
  refine F.ok scBegun (fun vs H Q E h => ?_) (fun cdv A outer s H vs Q E hr h => ?_)
  · obtain ⟨a, ns, rfl, _⟩ := h
    rfl
  · obtain ⟨a, ns, rfl, hS, hl, q⟩ := h
    have hu := hu_of hr
    have nd := scBegun.nd
    refine ⟨_, pss_cons (ps_setLc (i := 1) (own := [("cell", 2)]) (g := gName 2) (by rfl) nd rfl rfl (sw_true rfl rfl rfl (by decide +kernel)) (pi_list (pv 0)) (blkOk_by (N := ["script", "great", "cell"]) (sc := defScope sBegun) (by decide +kernel)) (fun _ _ _ _ _ => pg_name (i := 2) nd rfl (Or.inl rfl)) (fun _ _ _ _ _ => pts_one (pt_cmpR op_ge (pv 2) (pe_op op_pow pe_int pe_int) (nomark _))) (fun _ _ _ _ _ => pv 2))
      (pss_one (ps_ret (pe_disp (pps_cons pe_str (pv 1) (pps_cons pe_str pe_int (pps_cons pe_str (pe_op op_cat (pe_callTy call_list_of (by rfl) T.list (by decide +kernel) (pa_cons (pv 0) pa_nil)) (pe_lst (pa_cons (pe_op op_add (pe_callB call_len_seq (by rfl) T.len PySem.boot_len (pa_cons (pv 0) pa_nil)) pe_int) pa_nil))) (pps_cons pe_str pe_int pps_nil)))) (by rfl) (by rfl) (fun z => by cases z) (by decide)))), ?_⟩
    refine ⟨.ref a, rfl, a, rfl, ⟨_, hS⟩, fun D hD => lc_list (K := K) (a := a) (xs := ns.map V.int) (fun i H2 => Same H H2 ∧ ∃ gs : List Int, H2 D = some (.lst (gs.map V.int)) ∧ gs.length ≤ i) ⟨same_upd hD, [], upd_same, Nat.le_refl _⟩ (fun i H2 _ ⟨sm, _⟩ => sm.seq hS) ?_ ?_⟩
    · rintro i x H2 hi ⟨sm, gs, hg, hlg⟩
      obtain ⟨z, hz, rfl⟩ : ∃ z, ns[i]? = some z ∧ x = V.int z := by
        rw [List.getElem?_map] at hi
        cases e : ns[i]? with
        | none =>
          rw [e] at hi
          cases hi
        | some z =>
          rw [e] at hi
          exact ⟨z, rfl, (Option.some.inj hi).symm⟩
      have hin : i < ns.length := by
        rcases Nat.lt_or_ge i ns.length with h | h
        · exact h
        · rw [List.getElem?_eq_none h] at hz
          cases hz
      refine ⟨rfl, .int z, rfl, 10, 18, rfl, rfl, ⟨by decide, by decide, by decide⟩, z, _, rfl, rfl, _, rfl, ?_⟩
      cases decide ((10 : Int) ^ Int.toNat 18 ≤ z) with
      | false => exact iteF ⟨sm, gs, hg, by omega⟩
      | true =>
        refine iteT ⟨.int z, rfl, gs.map V.int, hg, ?_, ?_, gs ++ [z], ?_, ?_⟩
        · rw [List.length_map]
          exact small1000 (by omega)
        · exact fun b o e => by
            rw [upd_ne (ne_of_none e hD)]
            exact sm _ _ e
        · rw [upd_same, List.map_append]
          rfl
        · rw [List.length_append]
          show gs.length + 1 ≤ i + 1
          omega
    · rintro H2 ⟨sm, gs, hg, hlg⟩
      rw [List.length_map] at hlg
      refine fun p hp => ?_
      have s1 : Same H2 (upd H2 p (.dK [])) := same_upd hp
      have h1 : SqL K (upd H2 p (.dK [])) a (ns.map V.int) := s1.seq (sm.seq hS)
      refine ⟨.ref D, rfl, .ref a, rfl, a, _, rfl, .inl h1, fun l hl2 => ?_⟩
      have s2 := same_upd (o := .lst (ns.map V.int)) hl2
      refine ⟨.ref a, rfl, a, _, rfl, .inl (s2.seq h1), _, 5, rfl, rfl, (by show 1 ≤ sizeLine; decide), fun l2 hl3 => ?_⟩
      have s3 := same_upd (o := .lst [V.int (((ns.map V.int).length : Int) + 5)]) hl3
      refine ⟨l, l2, ns.map V.int, _, rfl, rfl, s3 _ _ upd_same, upd_same, ?_, fun c hc => ?_⟩
      · rw [List.length_map]
        show ns.length + 1 ≤ sizeLine
        exact Nat.le_of_lt (small1000 (by omega))
      · have s4 := same_upd (o := .lst (ns.map V.int ++ [V.int (((ns.map V.int).length : Int) + 5)])) hc
        have hp4 := s4 _ _ (s3 _ _ (s2 _ _ (upd_same (H := H2) (a := p) (o := .dK []))))
        have hD4 := s4 _ _ (s3 _ _ (s2 _ _ (s1 _ _ hg)))
        have nDp : D ≠ p := ne_of_none hg hp
        have npc : p ≠ c := ne_of_none (s3 _ _ (s2 _ _ (upd_same (H := H2) (a := p) (o := .dK [])))) hc
        have nDc : D ≠ c := ne_of_none (s3 _ _ (s2 _ _ (s1 _ _ hg))) hc
        have sA : Same H (upd (upd (upd (upd H2 p (.dK [])) l (.lst (ns.map V.int))) l2 (.lst [V.int (((ns.map V.int).length : Int) + 5)])) c (.lst (ns.map V.int ++ [V.int (((ns.map V.int).length : Int) + 5)]))) := fun b o e => s4 _ _ (s3 _ _ (s2 _ _ (s1 _ _ (sm _ _ e))))
        have hp0 : H p = none := by
          cases e : H p with
          | none => rfl
          | some o =>
            rw [sm _ _ e] at hp
            cases hp
        refine ⟨hp4, drK D c 0 0, rfl, (by show 4 ≤ 15; decide), q p D c _ (fun b o e => ?_) hp0 hD ⟨⟨0, 0, ?_⟩, ⟨gs, ?_, by omega⟩, ⟨ns ++ [(((ns.map V.int).length : Int) + 5)], ?_, ?_, ?_⟩, nDc⟩⟩
        · rw [upd_ne (ne_of_none e hp0)]
          exact sA _ _ e
        · rw [merge_dr]
          exact upd_same
        · rw [upd_ne nDp]
          exact hD4
        · rw [upd_ne npc.symm, upd_same, List.map_append]
          rfl
        · rw [List.length_append]
          show 0 < ns.length + 1
          omega
        · rw [List.length_append]
          show ns.length + 1 ≤ 64
          omega
/-! ### rows and pictures -/
def rv (l : List Nat) : V := .str (S l)
structure RowR (wide : Nat) (l : List Nat) : Prop where
  len : l.length = wide
  sg : ∀ c ∈ l, c = 35 ∨ c = 46
structure PicR (high wide : Nat) (rs : List (List Nat)) : Prop where
  len : rs.length = high
  row : ∀ l ∈ rs, RowR wide l
  h0 : 1 ≤ high
  h1 : high ≤ 60
  w0 : 1 ≤ wide
  w1 : wide ≤ 120
theorem s_dot : ("." : Str) = S [46] := by decide +kernel
theorem s_hash : ("#" : Str) = S [35] := by decide +kernel
theorem s_empty : ("" : Str) = S [] := by decide +kernel
/-! ### a sign many times; signs joined -/
theorem fold_rep (c : Nat) : ∀ (n : Nat) (acc : Array Nat), (List.replicate n #[c]).foldl (· ++ ·) acc = acc ++ (List.replicate n c).toArray
  | 0, acc => by simp
  | n + 1, acc => by
    rw [List.replicate_succ, List.foldl_cons, fold_rep c n (acc ++ #[c]), List.replicate_succ]
    apply Array.ext'
    simp
theorem mul_sign (c n : Nat) (h : 1 ≤ n) : Txt.mul (S [c]) (n : Int) = S (List.replicate n c) := by
  unfold Txt.mul
  rw [if_neg (by omega)]
  by_cases e : n = 1
  · subst e
    rfl
  · have e1 : (((n : Int) == 1) || (S [c]).length == 0) = false := by
      have a1 : ((n : Int) == 1) = false := by
        rw [beq_eq_false_iff_ne]
        omega
      rw [a1]
      rfl
    rw [e1, if_neg Bool.false_ne_true]
    have q := fold_rep c n #[]
    show (⟨(List.replicate (n : Int).toNat #[c]).foldl (· ++ ·) #[]⟩ : Str) = _
    rw [Int.toNat_natCast, q]
    simp [S]
theorem mul_ok (c n : Nat) (h : 1 ≤ n) (h2 : n ≤ 120) : MulOk (S [c]) (n : Int) := by
  refine ⟨?_, fun _ _ => ?_, fun _ _ => ?_⟩
  · rw [Bool.or_eq_false_iff, decide_eq_false_iff_not, decide_eq_false_iff_not]
    omega
  · show ¬ ((1 : Nat) : Int) > (2 ^ 63 - 1) / (n : Int)
    have : (1 : Int) ≤ (2 ^ 63 - 1) / (n : Int) := (Int.le_ediv_iff_mul_le (by omega)).mpr (by omega)
    omega
  · have e : (S [c]).length * (n : Int).toNat = n := by
      show 1 * (n : Int).toNat = n
      omega
    rw [e]
    unfold Builtin.Str.tooLong
    have z : n ≤ sizeLine := Nat.le_of_lt (small1000 (by omega))
    first
      | (rw [decide_eq_false_iff_not]; omega)
      | (simp; omega)
theorem joinL_ones : ∀ cs : List Nat, TL.joinL [] (cs.map fun c => [c]) = cs
  | [] => rfl
  | [c] => rfl
  | c :: d :: r => by
    show [c] ++ ([] ++ TL.joinL [] ((d :: r).map fun c => [c])) = _
    rw [joinL_ones (d :: r)]
    rfl
theorem join_ones (cs : List Nat) : Txt.join "" (cs.map fun c => S [c]) = S cs := by
  rw [s_empty]
  have e := SX.join_S [] (cs.map fun c => [c])
  rw [joinL_ones, List.map_map] at e
  exact e
theorem lens_ones : ∀ cs : List Nat, ((cs.map fun c => S [c]).map (·.length)).sum = cs.length
  | [] => rfl
  | c :: r => by
    show 1 + ((r.map fun c => S [c]).map (·.length)).sum = r.length + 1
    rw [lens_ones r, Nat.add_comm]
theorem row_rep (c wide : Nat) (h : c = 35 ∨ c = 46) : RowR wide (List.replicate wide c) := ⟨List.length_replicate, fun x hx => by rw [(List.mem_replicate.mp hx).2]; exact h⟩
theorem Dr.new {d g c p : Addr} {H : Hp} (D : Dr H d g c) (hn : H p = none) : p ≠ d ∧ p ≠ g := by
  obtain ⟨⟨r, t, h1⟩, ⟨gs, h2, _⟩, _, _⟩ := D
  exact ⟨fun z => by (rw [z, h1] at hn; cases hn), fun z => by (rw [z, h2] at hn; cases hn)⟩
/-! ### _law_picture -/
abbrev sPic : Stmt := topS 38
theorem scPic : FnScope ["draw", "high", "wide", "share", "rows", "r", "row", "c"] ["draw", "high", "wide"] (defScope sPic) := ⟨rfl, rfl, rfl, by decide +kernel, rfl, by decide +kernel, by decide +kernel⟩
def spPic : Sp := fun vs H Q _ => ∃ (d g c : Addr) (high wide : Nat), vs = [.ref d, .int high, .int wide] ∧ Dr H d g c ∧ 1 ≤ high ∧ high ≤ 60 ∧ 1 ≤ wide ∧ wide ≤ 120 ∧
  ∀ (a : Addr) (rs : List (List Nat)) (H' : Hp), PicR high wide rs → H a = none → H' a = some (.tup (rs.map rv)) → Dr H' d g c → Dn d g H H' → Q (.ref a) H'
theorem ok_pic {f fN : Addr} {fd fdN : FuncData} {k : Nat} (F : Fun K "_law_picture" "_law_picture" sPic f fd) (T : Tx mg) (GN : FnOk P w K mg base CX0 (k + 1) fN fdN ["draw", "below"] spNext) (mN : mg "_law_next" = some (.ref fN)) (kN : PySem.W.keepIn K (.ref fN) = true) (bN : Binds K fdN ["draw", "below"] []) : FnOk P w K mg base CX0 (k + 2) f fd ["draw", "high", "wide"] spPic := by
  refine F.ok scPic (fun vs H Q E h => ?_) (fun cdv A outer s H vs Q E hr h => ?_)
  · obtain ⟨d, g, c, high, wide, rfl, _⟩ := h
    rfl
  · obtain ⟨d, g, c, high, wide, rfl, D, h0, h1, w0, w1, q⟩ := h
    have hu := hu_of hr
    have nd := scPic.nd
    refine ⟨_, pss_cons (ps_asg (pe_tup (pa_cons (pe_ix ix_list (pe_lst (pa_cons pe_int (pa_cons pe_int (pa_cons pe_int pa_nil)))) (pe_call GN hr (by rfl) mN kN bN .nil pass0 (pa_cons (pv 0) (pa_cons pe_int pa_nil))) (fun _ _ => rfl)) (pa_cons (pe_lst pa_nil) pa_nil))) (pg_tup rfl (pgs_cons (pg_name (i := 3) nd rfl (.inr rfl)) (pgs_cons (pg_name (i := 4) nd rfl (.inl rfl)) pgs_nil))))
      (pss_cons (ps_for PassesOwn.never rfl (pi_range1 rfl T.range (pa_cons (pv 1) pa_nil)) (pg_name (i := 5) nd rfl (.inl rfl))
        (pss_cons (ps_set (i := 6) nd rfl (.inl rfl) (pe_join pe_str (pe_lc (own := [("c", 7)]) (g := gName 7) (tt := tYes) rfl nd (pi_range1 rfl T.range (pa_cons (pv 2) pa_nil)) (blkOk_by (N := ["draw", "high", "wide", "share", "rows", "r", "row", "c"]) (sc := defScope sPic) (by decide +kernel)) (fun _ _ _ _ _ => pg_name (i := 7) nd rfl (Or.inl rfl)) (fun _ _ _ _ _ => pts_nil)
            (fun _ _ _ _ _ => pe_ifExp (pt_cmpR op_eq (pe_call GN hr (by rfl) mN kN bN .nil pass0 (pa_cons (pv 0) (pa_cons (pv 3) pa_nil))) pe_int (nomark _)) pe_str pe_str))))
        (pss_one (ps_expr (pe_bm PySem.F.plainAttrs_list PySem.F.slot_list_append PySem.F.type_list_append mt_append (pv 4) (pa_cons (pe_ix ix_list (pe_lst (pa_cons (pv 6) (pa_cons (pv 6) (pa_cons (pv 6) (pa_cons (pe_op op_mul_str pe_str (pv 2)) (pa_cons (pe_op op_mul_str pe_str (pv 2)) pa_nil)))))) (pe_call GN hr (by rfl) mN kN bN .nil pass0 (pa_cons (pv 0) (pa_cons pe_int pa_nil))) (fun _ _ => rfl)) pa_nil))))))
      (pss_one (ps_ret (pe_callTy call_tuple_of (by rfl) T.tuple (by decide +kernel) (pa_cons (pv 4) pa_nil))))), ?_⟩
    refine ⟨by show 3 ≤ sizeLine; decide, fun l hl => ?_⟩
    have sl := same_upd (o := .lst [V.int 2, V.int 3, V.int 6]) hl
    refine ⟨.ref d, rfl, d, g, c, 3, rfl, D.same sl, by decide, by decide, fun n H1 hn0 hn1 D1 dn1 => ?_⟩
    obtain ⟨nld, nlg⟩ := D.new hl
    have hl1 := dn1 _ _ (upd_same (H := H) (a := l) (o := .lst [V.int 2, V.int 3, V.int 6])) nld nlg
    obtain ⟨sh, hsh0, hsh1, hat⟩ : ∃ sh : Int, 0 < sh ∧ sh < 1073741824 ∧ atI [V.int 2, V.int 3, V.int 6] n = some (.int sh) := by
      rcases (show n = 0 ∨ n = 1 ∨ n = 2 by omega) with x | x | x <;> rw [x]
      · exact ⟨2, by decide, by decide, rfl⟩
      · exact ⟨3, by decide, by decide, rfl⟩
      · exact ⟨6, by decide, by decide, rfl⟩
    have dnA : Dn d g H H1 := (Dn.same sl).trans dn1
    refine ⟨l, _, n, .int sh, rfl, rfl, SqL.of hl1, hat, ?_⟩
    refine ⟨by show 0 ≤ sizeLine; decide, fun l2 hl2 => ⟨by show 2 ≤ sizeLine; decide, fun t ht => ?_⟩⟩
    refine ⟨t, _, rfl, SqT.of upd_same, rfl, .int sh, _, rfl, .ref l2, [], rfl, rfl, ?_⟩
    have s2 := same_upd (o := .lst []) hl2
    have s3 := same_upd (o := .tup [V.int sh, V.ref l2]) ht
    have hl2' := s3 _ _ (upd_same (H := H1) (a := l2) (o := .lst []))
    have hl20 : H l2 = none := dnA.nn D1 hl2
    obtain ⟨n2d, n2g⟩ := D.new hl20
    have b1 : (-(2 ^ 62) : Int) ≤ (high : Int) ∧ (high : Int) < 2 ^ 62 := ⟨by omega, by omega⟩
    have b2 : (-(2 ^ 62) : Int) ≤ (wide : Int) ∧ (wide : Int) < 2 ^ 62 := ⟨by omega, by omega⟩
    refine ⟨.int high, rfl, high, rfl, b1.1, b1.2, for_range (lo := 0) (n := high) (fun i σ H2 => ∃ (y5 y6 : Option V) (rs : List (List Nat)), σ = [some (.ref d), some (.int high), some (.int wide), some (.int sh), some (.ref l2), y5, y6, none] ∧ rs.length = i ∧ (∀ l ∈ rs, RowR wide l) ∧ H2 l2 = some (.lst (rs.map rv)) ∧ Dr H2 d g c ∧ Dn d g H H2)
      ⟨none, none, [], rfl, rfl, (fun _ h => nomatch h), hl2', (D1.same s2).same s3, (dnA.trans (Dn.same s2)).trans (Dn.same s3)⟩ ?_ ?_⟩
    · rintro i σ H2 hi ⟨y5, y6, rs, rfl, hrl, hrow, h2l, D2, dn2⟩
      refine ⟨⟨_, rfl⟩, .int wide, rfl, wide, rfl, b2.1, b2.2, fun Dd hDd => lc_range (lo := 0) (n := wide) (fun j H3 => ∃ cs : List Nat, cs.length = j ∧ (∀ c ∈ cs, c = 35 ∨ c = 46) ∧ H3 Dd = some (.lst (cs.map fun c => rv [c])) ∧ H3 l2 = some (.lst (rs.map rv)) ∧ Dr H3 d g c ∧ Dn d g H H3) ?_ ?_ ?_⟩
      · have sD := same_upd (o := .lst []) hDd
        exact ⟨[], rfl, (fun _ h => nomatch h), upd_same, sD _ _ h2l, D2.same sD, dn2.trans (Dn.same sD)⟩
      · rintro j H3 hj ⟨cs, hcl, hcs, h3D, h3l, D3, dn3⟩
        obtain ⟨nDd, nDg⟩ := D2.new hDd
        refine ⟨rfl, .ref d, rfl, .int sh, rfl, d, g, c, sh, rfl, D3, hsh0, hsh1, fun m H4 hm0 hm1 D4 dn4 => ⟨rfl, _, rfl, ?_⟩⟩
        have h4D := dn4 _ _ h3D nDd nDg
        have h4l := dn4 _ _ h3l n2d n2g
        have nDl : Dd ≠ l2 := (ne_of_none h2l hDd).symm
        have fin : ∀ x : Nat, x = 35 ∨ x = 46 → ∃ acc, H4 Dd = some (.lst acc) ∧ acc.length < sizeLine ∧ ∃ cs : List Nat, cs.length = j + 1 ∧ (∀ c ∈ cs, c = 35 ∨ c = 46) ∧ (upd H4 Dd (.lst (acc ++ [rv [x]]))) Dd = some (.lst (cs.map fun c => rv [c])) ∧ (upd H4 Dd (.lst (acc ++ [rv [x]]))) l2 = some (.lst (rs.map rv)) ∧ Dr (upd H4 Dd (.lst (acc ++ [rv [x]]))) d g c ∧ Dn d g H (upd H4 Dd (.lst (acc ++ [rv [x]]))) := fun x hx => by
          refine ⟨_, h4D, ?_, cs ++ [x], ?_, ?_, ?_, ?_, ?_, ?_⟩
          · rw [List.length_map]
            exact small1000 (by omega)
          · rw [List.length_append, hcl]
            rfl
          · intro y hy
            rcases List.mem_append.mp hy with z | z
            · exact hcs y z
            · rw [List.mem_singleton.mp z]
              exact hx
          · rw [upd_same, List.map_append]
            rfl
          · rw [upd_ne nDl.symm]
            exact h4l
          · obtain ⟨⟨r, t', e1⟩, ⟨gs, e2, e3⟩, ⟨ks, e4, e5⟩, e6⟩ := id D4
            have nDc : Dd ≠ c := by
              obtain ⟨_, _, ⟨ks', e4', _⟩, _⟩ := id D2
              exact (ne_of_none e4' hDd).symm
            exact ⟨⟨r, t', by rw [upd_ne nDd.symm]; exact e1⟩, ⟨gs, by rw [upd_ne nDg.symm]; exact e2, e3⟩, ⟨ks, by rw [upd_ne nDc.symm]; exact e4, e5⟩, e6⟩
          · intro b o e hb1 hb2
            have hb3 : b ≠ Dd := ne_of_none (dn2 b o e hb1 hb2) hDd
            rw [upd_ne hb3]
            exact dn4 b o (dn3 b o e hb1 hb2) hb1 hb2
        cases decide (V.int m = V.int 0) with
        | true =>
          refine iteT ?_
          have e := fin 35 (.inl rfl)
          unfold rv at e
          rw [← s_hash] at e
          exact e
        | false =>
          refine iteF ?_
          have e := fin 46 (.inr rfl)
          unfold rv at e
          rw [← s_dot] at e
          exact e
      · rintro H3 ⟨cs, hcl, hcs, h3D, h3l, D3, dn3⟩
        have rowcs : RowR wide cs := ⟨hcl, hcs⟩
        refine ⟨"", Dd, cs.map fun c => S [c], rfl, rfl, .inl (SqL.of ?_), ?_, ?_⟩
        · rw [h3D, List.map_map]
          rfl
        · rw [lens_ones]
          show cs.length + _ * 0 ≤ 16777216
          omega
        · rw [join_ones]
          refine ⟨.ref l2, rfl, .inl ⟨rfl, _, SqL.of h3l⟩, .str (S cs), rfl, .str (S cs), rfl, .str (S cs), rfl, .int wide, rfl, ".", wide, rfl, rfl, ?_, .int wide, rfl, "#", wide, rfl, rfl, ?_, (by show 5 ≤ sizeLine; decide), fun l3 hl3 => ?_⟩
          · rw [s_dot]
            exact mul_ok 46 wide w0 w1
          · rw [s_hash]
            exact mul_ok 35 wide w0 w1
          · rw [s_dot, s_hash, mul_sign 46 wide w0, mul_sign 35 wide w0]
            have s5 := same_upd (o := .lst [V.str (S cs), V.str (S cs), V.str (S cs), V.str (S (List.replicate wide 46)), V.str (S (List.replicate wide 35))]) hl3
            refine ⟨.ref d, rfl, d, g, c, 5, rfl, D3.same s5, by decide, by decide, fun n5 H5 hn50 hn51 D5 dn5 => ?_⟩
            obtain ⟨n3d, n3g⟩ := D3.new hl3
            have h5l3 := dn5 _ _ (upd_same (H := H3) (a := l3)) n3d n3g
            have h5l2 := dn5 _ _ (s5 _ _ h3l) n2d n2g
            obtain ⟨lr, hlr, hat5⟩ : ∃ lr : List Nat, RowR wide lr ∧ atI [V.str (S cs), V.str (S cs), V.str (S cs), V.str (S (List.replicate wide 46)), V.str (S (List.replicate wide 35))] n5 = some (rv lr) := by
              rcases (show n5 = 0 ∨ n5 = 1 ∨ n5 = 2 ∨ n5 = 3 ∨ n5 = 4 by omega) with x | x | x | x | x <;> rw [x]
              · exact ⟨cs, rowcs, rfl⟩
              · exact ⟨cs, rowcs, rfl⟩
              · exact ⟨cs, rowcs, rfl⟩
              · exact ⟨_, row_rep 46 wide (.inr rfl), rfl⟩
              · exact ⟨_, row_rep 35 wide (.inl rfl), rfl⟩
            refine ⟨l3, _, n5, rv lr, rfl, rfl, SqL.of h5l3, hat5, l2, _, _, rfl, rfl, h5l2, ?_, ?_⟩
            · rw [List.length_map]
              exact small1000 (by omega)
            · refine ⟨_, _, rs ++ [lr], rfl, ?_, ?_, ?_, ?_, ?_⟩
              · rw [List.length_append, hrl]
                rfl
              · intro y hy
                rcases List.mem_append.mp hy with z | z
                · exact hrow y z
                · rw [List.mem_singleton.mp z]
                  exact hlr
              · rw [upd_same, List.map_append]
                rfl
              · obtain ⟨⟨r, t', e1⟩, ⟨gs, e2, e3⟩, ⟨ks, e4, e5⟩, e6⟩ := id D5
                have n2c : l2 ≠ c := by
                  obtain ⟨_, _, ⟨ks', e4', _⟩, _⟩ := id D
                  exact (ne_of_none e4' hl20).symm
                exact ⟨⟨r, t', by rw [upd_ne n2d.symm]; exact e1⟩, ⟨gs, by rw [upd_ne n2g.symm]; exact e2, e3⟩, ⟨ks, by rw [upd_ne n2c.symm]; exact e4, e5⟩, e6⟩
              · intro b o e hb1 hb2
                have hb3 : b ≠ l2 := ne_of_none e hl20
                rw [upd_ne hb3]
                exact dn5 b o (s5 b o (dn3 b o e hb1 hb2)) hb1 hb2
    · rintro σ H2 ⟨y5, y6, rs, rfl, hrl, hrow, h2l, D2, dn2⟩
      refine ⟨.ref l2, rfl, l2, _, rfl, .inl ⟨SqL.of h2l, fun p hp => ?_⟩⟩
      have sp := same_upd (o := .tup (rs.map rv)) hp
      exact q p rs _ ⟨hrl, hrow, h0, h1, w0, w1⟩ (dn2.nn D2 hp) upd_same (D2.same sp) (dn2.trans (Dn.same sp))
end
end Dt
namespace Dt
open PySem PySem.Spec PyProof.Rows L2 L2X
open SX (S)
/-! ### _law_sized, _law_pick -/
abbrev sSized : Stmt := topS 39
theorem scSized : FnScope ["draw", "high", "wide", "way"] ["draw"] (defScope sSized) := ⟨rfl, rfl, rfl, by decide +kernel, rfl, by decide +kernel, by decide +kernel⟩
def spSized : Sp := fun vs H Q _ => ∃ (d g c : Addr), vs = [.ref d] ∧ Dr H d g c ∧ ∀ (high wide : Nat) (a : Addr) (rs : List (List Nat)) (H' : Hp), PicR high wide rs → H a = none → H' a = some (.tup (rs.map rv)) → Dr H' d g c → Dn d g H H' → Q (.ref a) H'
abbrev sPick : Stmt := topS 37
theorem scPick : FnScope ["draw", "some"] ["draw", "some"] (defScope sPick) := ⟨rfl, rfl, rfl, by decide +kernel, rfl, by decide +kernel, by decide +kernel⟩
def spPick (K : PySem.W.Frag) : Sp := fun vs H Q _ => ∃ (d g c l : Addr) (xs : List V), vs = [.ref d, .ref l] ∧ Dr H d g c ∧ H l = some (.lst xs) ∧ l ≠ g ∧ 0 < xs.length ∧ xs.length ≤ 1000 ∧ ∀ (n : Nat) (x : V) (H' : Hp), xs[n]? = some x → Dr H' d g c → Dn d g H H' → Q x H'
section
variable {P : Program} {w : World} {K : PySem.W.Frag} {mg : Str → Option Value} {base : Heap}
theorem ok_pick {f fN : Addr} {fd fdN : FuncData} {k : Nat} (F : Fun K "_law_pick" "_law_pick" sPick f fd) (T : Tx mg) (GN : FnOk P w K mg base CX0 (k + 1) fN fdN ["draw", "below"] spNext) (mN : mg "_law_next" = some (.ref fN)) (kN : PySem.W.keepIn K (.ref fN) = true) (bN : Binds K fdN ["draw", "below"] []) : FnOk P w K mg base CX0 (k + 2) f fd ["draw", "some"] (spPick K) := by
  refine F.ok scPick (fun vs H Q E h => ?_) (fun cdv A outer s H vs Q E hr h => ?_)
  · obtain ⟨d, g, c, l, xs, rfl, _⟩ := h
    rfl
  · obtain ⟨d, g, c, l, xs, rfl, D, hl, nlg, x0, x1, q⟩ := h
    have hu := hu_of hr
    have nd := scPick.nd
    have nld : l ≠ d := by
      obtain ⟨⟨r, t, e⟩, _⟩ := D
      exact ne_of hl e (by intro z; cases z)
    refine ⟨_, pss_one (ps_ret (pe_ix ix_list (pv 1) (pe_call GN hr (by rfl) mN kN bN .nil pass0 (pa_cons (pv 0) (pa_cons (pe_callB call_len_seq (by rfl) T.len PySem.boot_len (pa_cons (pv 1) pa_nil)) pa_nil))) (fun _ _ => rfl))), ?_⟩
    refine ⟨.ref l, rfl, .ref d, rfl, .ref l, rfl, l, xs, rfl, .inl (SqL.of hl), d, g, c, (xs.length : Int), rfl, D, by omega, by omega, fun n H1 hn0 hn1 D1 dn1 => ?_⟩
    obtain ⟨j, rfl⟩ := Int.eq_ofNat_of_zero_le hn0
    have hj : j < xs.length := by omega
    have hx : xs[j]? = some xs[j] := List.getElem?_eq_getElem hj
    exact ⟨l, xs, (j : Int), xs[j], rfl, rfl, SqL.of (dn1 _ _ hl nld nlg), atI_nat hx, q j _ H1 hx D1 dn1⟩
theorem ok_sized {f fN fP : Addr} {fd fdN fdP : FuncData} {k : Nat} (F : Fun K "_law_sized" "_law_sized" sSized f fd) (T : Tx mg) (GN : FnOk P w K mg base CX0 (k + 1) fN fdN ["draw", "below"] spNext) (mN : mg "_law_next" = some (.ref fN)) (kN : PySem.W.keepIn K (.ref fN) = true) (bN : Binds K fdN ["draw", "below"] [])
    (GP : FnOk P w K mg base CX0 (k + 2) fP fdP ["draw", "high", "wide"] spPic) (mP : mg "_law_picture" = some (.ref fP)) (kP : PySem.W.keepIn K (.ref fP) = true) (bP : Binds K fdP ["draw", "high", "wide"] []) : FnOk P w K mg base CX0 (k + 3) f fd ["draw"] spSized := by
  refine F.ok scSized (fun vs H Q E h => ?_) (fun cdv A outer s H vs Q E hr h => ?_)
  · obtain ⟨d, g, c, rfl, _⟩ := h
    rfl
  · obtain ⟨d, g, c, rfl, D, q⟩ := h
    have hu := hu_of hr
    have nd := scSized.nd
    have hr1 : Room (k + 1) _ := hr.mono (by omega)
    refine ⟨_, pss_cons (ps_par (i := 1) (j := 2) (by rfl) nd rfl rfl (by decide) rfl rfl (pa_cons
          (pe_lst (pa_cons (pe_op op_add pe_int (pe_call GN hr1 (by rfl) mN kN bN .nil pass0 (pa_cons (pv 0) (pa_cons pe_int pa_nil)))) (pa_cons (pe_op op_add pe_int (pe_call GN hr1 (by rfl) mN kN bN .nil pass0 (pa_cons (pv 0) (pa_cons pe_int pa_nil)))) pa_nil))) (pa_cons
          (pe_lst (pa_cons (pe_op op_add pe_int (pe_call GN hr1 (by rfl) mN kN bN .nil pass0 (pa_cons (pv 0) (pa_cons pe_int pa_nil)))) (pa_cons (pe_op op_add pe_int (pe_call GN hr1 (by rfl) mN kN bN .nil pass0 (pa_cons (pv 0) (pa_cons pe_int pa_nil)))) pa_nil))) pa_nil)) (by rfl))
      (pss_cons (ps_set (i := 3) nd rfl (.inl rfl) (pe_call GN hr1 (by rfl) mN kN bN .nil pass0 (pa_cons (pv 0) (pa_cons pe_int pa_nil))))
      (pss_one (ps_ret (pe_call GP hr (by rfl) mP kP bP .nil pass0 (pa_cons (pv 0) (pa_cons
        (pe_ix ix_list (pv 1) (pe_callTy call_int1 (by rfl) T.int (by decide +kernel) (pa_cons (pe_cmpR op_eq (pv 3) pe_int (nomark _)) pa_nil)) (fun _ _ => rfl)) (pa_cons
        (pe_ix ix_list (pv 2) (pe_callTy call_int1 (by rfl) T.int (by decide +kernel) (pa_cons (pe_cmpR op_eq (pv 3) pe_int (nomark _)) pa_nil)) (fun _ _ => rfl)) pa_nil))))))), ?_⟩
    refine ⟨.ref d, rfl, d, g, c, 6, rfl, D, by decide, by decide, fun a1 H1 a10 a11 D1 dn1 => ⟨1, a1, rfl, rfl, .ref d, rfl, d, g, c, 60, rfl, D1, by decide, by decide, fun a2 H2 a20 a21 D2 dn2 => ⟨1, a2, rfl, rfl, by show 2 ≤ sizeLine; decide, fun l1 hl1 => ?_⟩⟩⟩
    have s1 := same_upd (o := .lst [V.int (1 + a1), V.int (1 + a2)]) hl1
    refine ⟨.ref d, rfl, d, g, c, 8, rfl, D2.same s1, by decide, by decide, fun b1 H3 b10 b11 D3 dn3 => ⟨1, b1, rfl, rfl, .ref d, rfl, d, g, c, 120, rfl, D3, by decide, by decide, fun b2 H4 b20 b21 D4 dn4 => ⟨1, b2, rfl, rfl, by show 2 ≤ sizeLine; decide, fun l2 hl2 => ?_⟩⟩⟩
    have s2 := same_upd (o := .lst [V.int (1 + b1), V.int (1 + b2)]) hl2
    obtain ⟨n1d, n1g⟩ := D2.new hl1
    obtain ⟨n2d, n2g⟩ := D4.new hl2
    have g1 := dn4 _ _ (dn3 _ _ (upd_same (H := H2) (a := l1) (o := .lst [V.int (1 + a1), V.int (1 + a2)])) n1d n1g) n1d n1g
    refine ⟨.ref l1, .ref l2, rfl, .ref d, rfl, d, g, c, 8, rfl, D4.same s2, by decide, by decide, fun wy H5 wy0 wy1 D5 dn5 => ?_⟩
    have g1' : SqL K H5 l1 [V.int (1 + a1), V.int (1 + a2)] := SqL.of (dn5 _ _ (s2 _ _ g1) n1d n1g)
    have g2' : SqL K H5 l2 [V.int (1 + b1), V.int (1 + b2)] := SqL.of (dn5 _ _ upd_same n2d n2g)
    obtain ⟨hi, hhi0, hhi1, hat1⟩ : ∃ hi : Nat, 1 ≤ hi ∧ hi ≤ 60 ∧ atI [V.int (1 + a1), V.int (1 + a2)] (if decide (V.int wy = V.int 0) then 1 else 0) = some (.int hi) := by
      cases decide (V.int wy = V.int 0) with
      | true => exact ⟨(1 + a2).toNat, by omega, by omega, by show some (V.int (1 + a2)) = _; rw [Int.toNat_of_nonneg (by omega)]⟩
      | false => exact ⟨(1 + a1).toNat, by omega, by omega, by show some (V.int (1 + a1)) = _; rw [Int.toNat_of_nonneg (by omega)]⟩
    obtain ⟨wi, hwi0, hwi1, hat2⟩ : ∃ wi : Nat, 1 ≤ wi ∧ wi ≤ 120 ∧ atI [V.int (1 + b1), V.int (1 + b2)] (if decide (V.int wy = V.int 1) then 1 else 0) = some (.int wi) := by
      cases decide (V.int wy = V.int 1) with
      | true => exact ⟨(1 + b2).toNat, by omega, by omega, by show some (V.int (1 + b2)) = _; rw [Int.toNat_of_nonneg (by omega)]⟩
      | false => exact ⟨(1 + b1).toNat, by omega, by omega, by show some (V.int (1 + b1)) = _; rw [Int.toNat_of_nonneg (by omega)]⟩
    have dnA : Dn d g H H5 := ((((dn1.trans dn2).trans (Dn.same s1)).trans (dn3.trans dn4)).trans (Dn.same s2)).trans dn5
    refine ⟨.ref d, rfl, .ref l1, rfl, .int wy, rfl, rfl, .inr ⟨_, rfl, l1, _, _, .int hi, rfl, rfl, g1', hat1, ?_⟩⟩
    refine ⟨.ref l2, rfl, .int wy, rfl, rfl, .inr ⟨_, rfl, l2, _, _, .int wi, rfl, rfl, g2', hat2, ?_⟩⟩
    refine ⟨d, g, c, hi, wi, rfl, D5, hhi0, hhi1, hwi0, hwi1, fun a rs H6 pr na ha D6 dn6 => q hi wi a rs H6 pr (dnA.nn D5 na) ha D6 (dnA.trans dn6)⟩
end
end Dt
namespace Dt
open PySem PySem.Spec PyProof.Rows L2 L2X
open SX (S)
/-! ### what is a picture -/
def rowOk : V → Bool
  | .str x => decide (1 ≤ x.length) && decide (x.length ≤ 120) && decide (Txt.count x "#" + Txt.count x "." = (x.length : Int))
  | _ => false
theorem rowOk_str (x : Str) : rowOk (.str x) = (decide (1 ≤ x.length) && decide (x.length ≤ 120) && decide (Txt.count x "#" + Txt.count x "." = (x.length : Int))) := rfl
def lenV : V → Int
  | .str x => x.length
  | _ => 0
def picOk (xs : List V) : Bool := decide (1 ≤ xs.length) && decide (xs.length ≤ 60) && xs.all rowOk && xs.all fun y => decide (lenV y = lenV (xs.headD .non))
/-- a thing of a known kind -/
def Kn (K : PySem.W.Frag) (H : Hp) (x : V) : Prop := (∃ T, TyB K H x T ∧ tyOk T = true) ∧ ∀ z, x = .str z → z.length ≤ sizeLine
structure Tp (mg : Str → Option Value) : Prop where
  typ : mg "type" = none
  str : mg "str" = none
  all : mg "all" = none
  mr : ∃ t, mg "MOST_ROWS" = some (.int 60 t)
  mc : ∃ t, mg "MOST_COLUMNS" = some (.int 120 t)
abbrev sIsText : Stmt := topS 17
theorem scIsText : FnScope ["thing"] ["thing"] (defScope sIsText) := ⟨rfl, rfl, rfl, by decide +kernel, rfl, by decide +kernel, by decide +kernel⟩
def isStr : V → Bool
  | .str _ => true
  | _ => false
def spIsText (K : PySem.W.Frag) : Sp := fun vs H Q _ => ∃ x, vs = [x] ∧ Kn K H x ∧ Q (.bl (isStr x)) H
abbrev sIsRow : Stmt := topS 23
theorem scIsRow : FnScope ["thing"] ["thing"] (defScope sIsRow) := ⟨rfl, rfl, rfl, by decide +kernel, rfl, by decide +kernel, by decide +kernel⟩
def spIsRow (K : PySem.W.Frag) : Sp := fun vs H Q _ => ∃ x, vs = [x] ∧ Kn K H x ∧ Q (.bl (rowOk x)) H
theorem isStr_ty {K : PySem.W.Frag} {H : Hp} {x : V} {T : String} (t : TyB K H x T) : decide (T = "str") = isStr x := by
  cases t <;> rfl
section
variable {P : Program} {w : World} {K : PySem.W.Frag} {mg : Str → Option Value} {base : Heap}
theorem ok_isText {f : Addr} {fd : FuncData} {k : Nat} (F : Fun K "is_text" "is_text" sIsText f fd) (T : Tp mg) : FnOk P w K mg base CX0 (k + 1) f fd ["thing"] (spIsText K) := by
  refine F.ok scIsText (fun vs H Q E h => ?_) (fun cdv A outer s H vs Q E hr h => ?_)
  · obtain ⟨x, rfl, _⟩ := h
    rfl
  · obtain ⟨x, rfl, ⟨⟨Ty, ht, ok⟩, _⟩, q⟩ := h
    refine ⟨_, pss_one (ps_ret (pe_cmpR op_eq_ty (pe_callTy call_type1 (by rfl) T.typ (by decide +kernel) (pa_cons (pv 0) pa_nil)) (pe_bltn (v := .ty "str") (u := .type "str") (by rfl) T.str (by decide +kernel) rfl) (nomark _))), ?_⟩
    refine ⟨x, rfl, x, Ty, rfl, ht, Ty, "str", rfl, rfl, ok, rfl, ?_⟩
    have e : id (decide (Ty = "str")) = isStr x := isStr_ty ht
    rw [e]
    exact q
theorem ok_isRow {f fT : Addr} {fd fdT : FuncData} {k : Nat} (F : Fun K "_is_row" "_is_row" sIsRow f fd) (T : Tp mg) (X : Tx mg) (GT : FnOk P w K mg base CX0 (k + 1) fT fdT ["thing"] (spIsText K)) (mT : mg "is_text" = some (.ref fT)) (kT : PySem.W.keepIn K (.ref fT) = true) (bT : Binds K fdT ["thing"] []) : FnOk P w K mg base CX0 (k + 2) f fd ["thing"] (spIsRow K) := by
  refine F.ok scIsRow (fun vs H Q E h => ?_) (fun cdv A outer s H vs Q E hr h => ?_)
  · obtain ⟨x, rfl, _⟩ := h
    rfl
  · obtain ⟨x, rfl, kn, q⟩ := h
    obtain ⟨t, hmc⟩ := T.mc
    refine ⟨_, pss_cons (ps_if (PW.pt (pw_or (pt_not (pt_val (pe_call GT hr (by rfl) mT kT bT .nil pass0 (pa_cons (pv 0) pa_nil)))) (pw_or1 (pt_not (pt_chain op_le op_le pe_int (pe_callB call_len_str (by rfl) X.len PySem.boot_len (pa_cons (pv 0) pa_nil)) (pe_glob (v := .int 120) (by rfl) hmc ⟨_, rfl⟩))))))
        (pss_one (ps_ret pe_bl)) pss_nil)
      (pss_one (ps_ret (pe_cmpR op_eq (pe_op op_add (pe_m1 PySem.F.slot_str_count PySem.F.type_str_count mt_count (pv 0) pe_str) (pe_m1 PySem.F.slot_str_count PySem.F.type_str_count mt_count (pv 0) pe_str)) (pe_callB call_len_str (by rfl) X.len PySem.boot_len (pa_cons (pv 0) pa_nil)) (nomark _)))), ?_⟩
    refine ⟨x, rfl, x, rfl, kn, _, rfl, ?_⟩
    cases x with
    | str z =>
      have hz := kn.2 z rfl
      refine iteF ?_
      refine ⟨.str z, rfl, z, rfl, hz, 1, _, rfl, rfl, _, rfl, ?_⟩
      refine ite2 (fun e => ?_) (fun e => ?_)
      · refine ⟨_, 120, rfl, rfl, _, rfl, ite2 (fun e2 => ?_) (fun e2 => ?_)⟩
        · have e3 : ¬ z.length ≤ 120 := fun le => by
            have : decide ((z.length : Int) ≤ 120) = true := decide_eq_true (by omega)
            rw [this] at e2
            cases e2
          have e4 : rowOk (.str z) = false := by
            rw [rowOk_str, decide_eq_false e3, Bool.and_false, Bool.false_and]
          rw [e4] at q
          exact q
        · have e3 : z.length ≤ 120 := by
            have h1 : ¬ ((!decide ((z.length : Int) ≤ 120)) = true) := e2
            have h2 : decide ((z.length : Int) ≤ 120) = true := by
              cases hh : decide ((z.length : Int) ≤ 120) with
              | true => rfl
              | false =>
                rw [hh] at h1
                exact absurd rfl h1
            have := of_decide_eq_true h2
            omega
          have e1 : 1 ≤ z.length := by
            have := of_decide_eq_true e
            omega
          refine ⟨.str z, rfl, ⟨_, rfl⟩, z, "#", rfl, rfl, .str z, rfl, ⟨_, rfl⟩, z, ".", rfl, rfl, _, _, rfl, rfl, .str z, rfl, z, rfl, hz, rfl, ?_⟩
          have e4 : rowOk (.str z) = decide (V.int (Txt.count z "#" + Txt.count z ".") = V.int (z.length : Int)) := by
            rw [rowOk_str, decide_eq_true e1, decide_eq_true e3, Bool.true_and, Bool.true_and]
            exact Bool.eq_iff_iff.mpr ⟨fun h => decide_eq_true (congrArg V.int (of_decide_eq_true h)), fun h => decide_eq_true (V.int.inj (of_decide_eq_true h))⟩
          rw [e4] at q
          exact q
      · have e1 : ¬ 1 ≤ z.length := fun le => e (decide_eq_true (by omega))
        have e4 : rowOk (.str z) = false := by
          rw [rowOk_str, decide_eq_false e1, Bool.false_and, Bool.false_and]
        rw [e4] at q
        exact ⟨_, rfl, q⟩
    | _ => exact iteT (iteT q)
/-! ### is_picture -/
abbrev sIsPic : Stmt := topS 22
theorem scIsPic : FnScope ["thing", "row"] ["thing"] (defScope sIsPic) := ⟨rfl, rfl, rfl, by decide +kernel, rfl, by decide +kernel, by decide +kernel⟩
/-- a thing as is_picture may be asked: no tuple, or a tuple whose items are of known kinds -/
def Asked (K : PySem.W.Frag) (H : Hp) (x : V) (b : Bool) : Prop :=
  (∃ T, TyB K H x T ∧ tyOk T = true ∧ T ≠ "tuple" ∧ b = false) ∨ ∃ a xs, x = .ref a ∧ SqT K H a xs ∧ (xs.length ≤ 60 → ∀ y ∈ xs, Kn K H y) ∧ b = picOk xs
def spIsPic (K : PySem.W.Frag) : Sp := fun vs H Q _ => ∃ x b, vs = [x] ∧ Asked K H x b ∧ ∀ H', Same H H' → Q (.bl b) H'
theorem sameT {K : PySem.W.Frag} {H H' : Hp} {a : Addr} {xs : List V} (e : Same H H') (h : SqT K H a xs) : SqT K H' a xs := by
  rcases h with (h | ⟨o, h⟩) | h
  · exact .inl (.inl (e _ _ h))
  · exact .inl (.inr ⟨o, e _ _ h⟩)
  · exact .inr h
theorem Kn.same {H H' : Hp} {x : V} (h : Kn K H x) (s : Same H H') : Kn K H' x := by
  obtain ⟨⟨T, t, ok⟩, hz⟩ := h
  refine ⟨⟨T, ?_, ok⟩, hz⟩
  cases t with
  | non => exact .non
  | bl b => exact .bl b
  | int i => exact .int i
  | str x => exact .str x
  | byt b => exact .byt b
  | lst h => exact .lst (s.seq h)
  | tup h => exact .tup (sameT s h)
  | dK h => exact .dK (s _ _ h)
theorem iteE {c : Bool} {A B : Prop} (e : c = false) (h : B) : if c = true then A else B := by
  rw [e]
  exact iteF h
theorem iteY {c : Bool} {A B : Prop} (e : c = true) (h : A) : if c = true then A else B := by
  rw [e]
  exact iteT h
theorem take_snoc {α : Type} {xs : List α} {i : Nat} {x : α} (h : xs[i]? = some x) : xs.take (i + 1) = xs.take i ++ [x] := by
  rw [List.take_add_one, h]
  rfl
theorem all_map_id {α : Type} (f : α → Bool) : ∀ xs : List α, (xs.map f).all id = xs.all f
  | [] => rfl
  | x :: r => by
    show (id (f x) && (r.map f).all id) = (f x && r.all f)
    rw [all_map_id f r]
    rfl
theorem bls {α : Type} (f : α → Bool) (xs : List α) : xs.map (fun y => V.bl (f y)) = (xs.map f).map V.bl := by
  rw [List.map_map]
  rfl
theorem ok_isPic {f fR : Addr} {fd fdR : FuncData} {k : Nat} (F : Fun K "is_picture" "is_picture" sIsPic f fd) (T : Tp mg) (X : Tx mg) (GR : FnOk P w K mg base CX0 (k + 1) fR fdR ["thing"] (spIsRow K)) (mR : mg "_is_row" = some (.ref fR)) (kR : PySem.W.keepIn K (.ref fR) = true) (bR : Binds K fdR ["thing"] []) : FnOk P w K mg base CX0 (k + 2) f fd ["thing"] (spIsPic K) := by
  refine F.ok scIsPic (fun vs H Q E h => ?_) (fun cdv A outer s H vs Q E hr h => ?_)
  · obtain ⟨x, b, rfl, _⟩ := h
    rfl
  · obtain ⟨x, b, rfl, ask, q⟩ := h
    obtain ⟨t, hmr⟩ := T.mr
    have nd := scIsPic.nd
    refine ⟨_, pss_cons (ps_if (PW.pt (pw_or (pt_cmpR op_ne_ty (pe_callTy call_type1 (by rfl) T.typ (by decide +kernel) (pa_cons (pv 0) pa_nil)) (pe_bltn (v := .ty "tuple") (u := .type "tuple") (by rfl) X.tuple (by decide +kernel) rfl) (nomark _)) (pw_or1 (pt_not (pt_chain op_le op_le pe_int (pe_callB call_len_seq (by rfl) X.len PySem.boot_len (pa_cons (pv 0) pa_nil)) (pe_glob (v := .int 60) (by rfl) hmr ⟨_, rfl⟩))))))
        (pss_one (ps_ret pe_bl)) pss_nil)
      (pss_cons (ps_if (pt_not (pt_val (pe_callB (cr_all rfl) (by rfl) T.all (by decide +kernel) (pa_cons (pe_lc (own := [("row", 1)]) (g := gName 1) (tt := tYes) rfl nd (pi_tup (pv 0)) (blkOk_by (N := ["thing", "row"]) (sc := defScope sIsPic) (by decide +kernel)) (fun _ _ _ _ _ => pg_name (i := 1) nd rfl (Or.inl rfl)) (fun _ _ _ _ _ => pts_nil)
            (fun _ _ _ _ _ => pe_call GR hr (by rfl) mR kR bR .nil pass0 (pa_cons (pv 1) pa_nil))) pa_nil)))) (pss_one (ps_ret pe_bl)) pss_nil)
      (pss_one (ps_ret (pe_callB (cr_all rfl) (by rfl) T.all (by decide +kernel) (pa_cons (pe_lc (own := [("row", 1)]) (g := gName 1) (tt := tYes) rfl nd (pi_tup (pv 0)) (blkOk_by (N := ["thing", "row"]) (sc := defScope sIsPic) (by decide +kernel)) (fun _ _ _ _ _ => pg_name (i := 1) nd rfl (Or.inl rfl)) (fun _ _ _ _ _ => pts_nil)
            (fun _ _ _ _ _ => pe_cmpR op_eq (pe_callB call_len_str (by rfl) X.len PySem.boot_len (pa_cons (pv 1) pa_nil)) (pe_callB call_len_str (by rfl) X.len PySem.boot_len (pa_cons (pe_ix (r := rIxT K) ix_tup (pv 0) pe_int (fun _ _ => rfl)) pa_nil)) (nomark _))) pa_nil))))), ?_⟩
    rcases ask with ⟨Ty, ht, ok, ne, rfl⟩ | ⟨a, xs, rfl, hx, kn, rfl⟩
    · refine ⟨x, rfl, x, Ty, rfl, ht, Ty, "tuple", rfl, rfl, ok, rfl, _, rfl, ?_⟩
      have e : not (decide (Ty = "tuple")) = true := by rw [decide_eq_false ne]; rfl
      exact iteY e (q H (Same.refl H))
    · refine ⟨.ref a, rfl, .ref a, "tuple", rfl, .tup hx, "tuple", "tuple", rfl, rfl, rfl, rfl, _, rfl, iteE (by decide) ?_⟩
      refine ⟨.ref a, rfl, a, xs, rfl, .inr hx, 1, _, rfl, rfl, _, rfl, ite2 (fun e => ?_) (fun e => ?_)⟩
      · have e1 : 1 ≤ xs.length := by
          have := of_decide_eq_true e
          omega
        refine ⟨_, 60, rfl, rfl, _, rfl, ite2 (fun e2 => ?_) (fun e2 => ?_)⟩
        · have e3 : ¬ xs.length ≤ 60 := fun le => by
            have : decide ((xs.length : Int) ≤ 60) = true := decide_eq_true (by omega)
            rw [this] at e2
            cases e2
          have z : picOk xs = false := by
            unfold picOk
            rw [decide_eq_false e3, Bool.and_false, Bool.false_and, Bool.false_and]
          rw [z] at q
          exact q H (Same.refl H)
        · have e3 : xs.length ≤ 60 := by
            have h1 : ¬ ((!decide ((xs.length : Int) ≤ 60)) = true) := e2
            have h2 : decide ((xs.length : Int) ≤ 60) = true := by
              cases hh : decide ((xs.length : Int) ≤ 60) with
              | true => rfl
              | false =>
                rw [hh] at h1
                exact absurd rfl h1
            have := of_decide_eq_true h2
            omega
          have kn' := kn e3
          refine ⟨.ref a, rfl, a, rfl, ⟨_, hx⟩, fun Dd hDd => lc_tup (K := K) (a := a) (xs := xs) (fun i H2 => Same H H2 ∧ H2 Dd = some (.lst ((xs.take i).map fun y => V.bl (rowOk y)))) ⟨same_upd hDd, upd_same⟩ (fun i H2 _ z => sameT z.1 hx) ?_ ?_⟩
          · rintro i y H2 hi ⟨sm, h2⟩
            have hm : y ∈ xs := List.mem_of_getElem? hi
            refine ⟨rfl, y, rfl, y, rfl, (kn' y hm).same sm, _, h2, ?_, ?_, ?_⟩
            · rw [List.length_map, List.length_take]
              exact small1000 (by omega)
            · exact fun b o e => by
                rw [upd_ne (ne_of_none e hDd)]
                exact sm _ _ e
            · rw [upd_same, take_snoc hi, List.map_append]
              rfl
          · rintro H2 ⟨sm, h2⟩
            rw [List.take_length, bls] at h2
            refine ⟨Dd, xs.map rowOk, rfl, SqL.of h2, _, rfl, ?_⟩
            rw [all_map_id]
            cases eall : xs.all rowOk with
            | false =>
              have z : picOk xs = false := by
                unfold picOk
                rw [eall, Bool.and_false, Bool.false_and]
              rw [z] at q
              exact q H2 sm
            | true =>
              have hx2 : SqT K H2 a xs := sameT sm hx
              obtain ⟨x0, r0, rfl⟩ : ∃ x0 r0, xs = x0 :: r0 := by
                cases xs with
                | nil => exact absurd e1 (by decide)
                | cons x0 r0 => exact ⟨x0, r0, rfl⟩
              have isS : ∀ y ∈ x0 :: r0, ∃ z : Str, y = .str z ∧ z.length ≤ sizeLine := fun y hy => by
                have h := List.all_eq_true.mp eall y hy
                cases y with
                | str z => exact ⟨z, rfl, (kn' _ hy).2 z rfl⟩
                | _ => cases h
              obtain ⟨z0, ez0, hz0⟩ := isS x0 List.mem_cons_self
              refine ⟨.ref a, rfl, a, rfl, ⟨_, hx2⟩, fun D2 hD2 => lc_tup (K := K) (a := a) (xs := x0 :: r0) (fun i H3 => Same H2 H3 ∧ H3 D2 = some (.lst (((x0 :: r0).take i).map fun y => V.bl (decide (lenV y = lenV x0))))) ⟨same_upd hD2, upd_same⟩ (fun i H3 _ z => sameT z.1 hx2) ?_ ?_⟩
              · rintro i y H3 hi ⟨sm3, h3⟩
                have hm : y ∈ x0 :: r0 := List.mem_of_getElem? hi
                obtain ⟨zy, ey, hzy⟩ := isS y hm
                refine ⟨rfl, y, rfl, zy, by rw [ey], hzy, .ref a, rfl, a, x0 :: r0, 0, x0, rfl, rfl, sameT sm3 hx2, atI_nat (j := 0) rfl, z0, by rw [ez0], hz0, rfl, _, h3, ?_, ?_, ?_⟩
                · rw [List.length_map, List.length_take]
                  exact small1000 (by omega)
                · exact fun b o e => by
                    rw [upd_ne (ne_of_none e hD2)]
                    exact sm3 _ _ e
                · rw [upd_same, take_snoc hi, List.map_append]
                  have e5 : decide (V.int (zy.length : Int) = V.int (z0.length : Int)) = decide (lenV y = lenV x0) := by
                    rw [ey, ez0]
                    exact Bool.eq_iff_iff.mpr ⟨fun h => decide_eq_true (V.int.inj (of_decide_eq_true h)), fun h => decide_eq_true (congrArg V.int (of_decide_eq_true h))⟩
                  rw [e5]
                  rfl
              · rintro H3 ⟨sm3, h3⟩
                rw [List.take_length, bls] at h3
                refine ⟨D2, _, rfl, SqL.of h3, ?_⟩
                rw [all_map_id]
                have z : picOk (x0 :: r0) = (x0 :: r0).all fun y => decide (lenV y = lenV x0) := by
                  unfold picOk
                  rw [eall, decide_eq_true e1, decide_eq_true e3]
                  rfl
                rw [z] at q
                exact q H3 (sm.trans sm3)
      · have e1 : ¬ 1 ≤ xs.length := fun le => e (decide_eq_true (by omega))
        have z : picOk xs = false := by
          unfold picOk
          rw [decide_eq_false e1, Bool.false_and, Bool.false_and, Bool.false_and]
        rw [z] at q
        exact ⟨_, rfl, q H (Same.refl H)⟩
end
end Dt
namespace Dt
open PySem PySem.Spec PyProof.Rows L2 L2X
open SX (S)
/-! ### refusals -/
/-- the class NoPicture, as the top has made it, at C -/
structure Tn (K : PySem.W.Frag) (mg : Str → Option Value) (C : Addr) : Prop where
  g : mg "NoPicture" = some (.ref C)
  x : PySem.W.excIn K C [.type "ValueError", .type "Exception", .type "BaseException", .type "object"] "ValueError.__new__" = true
  k : PySem.W.keepIn K (.ref C) = true
  b : PySem.W.subIn K (.ref C) (.type "BaseException") = some true
  t : PySem.W.typeIn K (.ref C) = some (.type "type")
abbrev sWant : Stmt := topS 24
theorem scWant : FnScope ["thing"] ["thing"] (defScope sWant) := ⟨rfl, rfl, rfl, by decide +kernel, rfl, by decide +kernel, by decide +kernel⟩
def spWant (K : PySem.W.Frag) (C : Addr) : Sp := fun vs H Q E => ∃ x b, vs = [x] ∧ Asked K H x b ∧ (b = true → ∀ H', Same H H' → Q .non H') ∧ (b = false → ∀ H', Same H H' → E (.ref C) none H')
section
variable {P : Program} {w : World} {K : PySem.W.Frag} {mg : Str → Option Value} {base : Heap} {C : Addr}
theorem ok_want {f fP : Addr} {fd fdP : FuncData} {k : Nat} (F : Fun K "want_picture" "want_picture" sWant f fd) (N : Tn K mg C) (GP : FnOk P w K mg base CX0 (k + 1) fP fdP ["thing"] (spIsPic K)) (mP : mg "is_picture" = some (.ref fP)) (kP : PySem.W.keepIn K (.ref fP) = true) (bP : Binds K fdP ["thing"] []) :
    FnOk P w K mg base (L2.CX P w) (k + 2) f fd ["thing"] (spWant K C) := by
  refine F.okX scWant (fun vs H Q E h => ?_) (fun cdv A outer s H vs Q E hr h => ?_)
  · obtain ⟨x, b, rfl, _⟩ := h
    rfl
  · obtain ⟨x, b, rfl, ask, q1, q2⟩ := h
    refine ⟨_, pss_one (ps_if (pt_not (pt_val (pe_call GP hr (by rfl) mP kP bP .nil pass0 (pa_cons (pv 0) pa_nil)))) (pss_one (ps_raise rfl (takes_of rfl rfl rfl rfl) (pmk_own PySem.F.excBase_ValueError N.x N.g N.k (raises_own N.b N.t) rfl))) pss_nil), ?_⟩
    refine ⟨x, rfl, x, b, rfl, ask, fun H' sm => ⟨_, rfl, ?_⟩⟩
    cases b with
    | true => exact iteF (q1 rfl H' sm)
    | false => exact iteT (q2 rfl H' sm)
end
end Dt
/-! a comprehension whose elements are walked with the frame around it at hand -/
namespace L2X
open PySem PySem.Spec PyProof.Rows L2
section
variable {X : Cx}
/-- the block of a comprehension, begun at s1 over H1 -/
abbrev Bk (X : Cx) (sc : Scope) (s1 : Shared) (H1 : Hp) (L : Addr) (cl : List (Str × Addr)) (fp : List Addr) : Cx :=
  X.blk s1 H1 sc (compEnvC sc cl L X.env) fp
/-- from within the block the frame around it is seen -/
theorem out_of {pins pj : List (Addr × Obj)} {σ τ : L2.St} {H1 H2 : Hp} {s1 s2 : Shared} {sc : Scope} {L : Addr} {cl : List (Str × Addr)} {fp : List Addr}
    (I : Inv X pins σ H1 s1) (hf : ∀ b ∈ fp, FpOk X pins H1 b)
    (B : Inv (Bk X sc s1 H1 L cl fp) pj τ H2 s2) : Inv X pins σ H2 s2 := by
  refine I.call' (ch := fp) B.os B.base B.hok B.bare fun b hb => ?_
  have z := hf b hb
  exact ⟨z.2.2.2.1, z.2.1, z.2.2.2.2.1, z.2.2.2.2.2⟩
theorem pe_lcI {elt tg iter : Expr} {sc : Scope} {own : List (Str × Nat)} {pos : Pos} {wi : TI} {g : TG} {te : L2.St → TE}
    (hc : X.calm = true) (hN : X.N.Nodup) (hi : PI X tg iter wi) (ok : BlkOk X.N X.env.scope sc own)
    (hg : ∀ (s1 : Shared) (H1 : Hp) (L : Addr) (cl : List (Str × Addr)) (fp : List Addr), PG (Bk X sc s1 H1 L cl fp) tg g)
    (he : ∀ (pins : List (Addr × Obj)) (σ : L2.St) (s1 : Shared) (H1 : Hp) (L : Addr) (cl : List (Str × Addr)) (fp : List Addr),
      Inv X pins σ H1 s1 → (∀ b ∈ fp, FpOk X pins H1 b) → PE (Bk X sc s1 H1 L cl fp) elt (te σ))
    (hs : ∀ x, foldedSetIterable iter X.env x = pure x := by intro _; rfl) :
    PE X (.ListComp elt [⟨tg, iter, [], 0⟩] sc pos) (fun σ H Q => tLc wi g tYes (te σ) (own.map (·.2)) σ H Q) := by
  constructor
  intro pins s σ H Q I h
  rw [eval_ListComp]
  have freeIn : ∀ y ∈ sc.names, y.2 = .free → ∃ c, X.env.cells.lookup y.1 = some c := by
    intro y hy e
    cases ok.free y hy e with
    | inl k => exact I.ok.has _ (.inl k)
    | inr k => exact I.ok.has _ (.inr k)
  have uq : ∀ y ∈ sc.names, _ := fun y hy (e : y.2 = .local) => (ok.uniq y hy).trans (congrArg some e)
  apply wpAny_comprehension_free (use := none) rfl hs (closure_ok freeIn) ok.kind uq
  refine thn (hi.run pins s σ H _ I h) ?_
  intro xv sa hx
  refine thn hx ?_
  rintro itv sb ⟨it, fp, tn, J, Hb, rfl, Ib, T, stb, fb, rd⟩
  apply wpAny_newObj_type
  · apply newEnv_comp
    have newD : Hb sb.heap.objs.size = none := Ib.hok.fresh (Nat.le_refl _)
    obtain ⟨W, ⟨m0, w0⟩, tu⟩ := rd sb.heap.objs.size newD
    generalize eD : sb.heap.objs.size = D at newD w0 tu ⊢
    have objD : (sb.heap.push { cls := .type "list", data := .seq ([] : List Value).toArray }).get? D = some { cls := .type "list", data := .seq ([] : List Value).toArray } := by
      rw [← eD]
      exact Heap.get?_push_size _ rfl
    have Ic : Inv X pins σ (upd Hb D (.lst [])) { sb with heap := sb.heap.push { cls := .type "list", data := .seq ([] : List Value).toArray } } :=
      Ib.laid (t' := sb.toks) (fun b o e => Heap.get?_push_of_some _ e) (by rw [eD]; exact Nat.le_refl _) ⟨by show 0 ≤ sizeLine; decide, [], 0, .nil, objD⟩
    have stc : tn 0 (sb.heap.push { cls := .type "list", data := .seq ([] : List Value).toArray }) := T.keep _ _ _ stb fun b _ o e => Heap.get?_push_of_some _ e
    have fc : ∀ b ∈ fp, FpOk X pins (upd Hb D (.lst [])) b ∧ b < (sb.heap.push { cls := .type "list", data := .seq ([] : List Value).toArray }).objs.size := by
      intro b hb
      obtain ⟨o, e, _⟩ := T.obj _ _ stb b hb
      have lt := Heap.lt_size e
      have z := fb b hb
      constructor
      · refine ⟨?_, z.2⟩
        rw [upd_ne (show b ≠ D from Nat.ne_of_lt (eD ▸ lt))]
        exact z.1
      · rw [Heap.size_push]
        exact Nat.lt_succ_of_lt lt
    generalize eC : ({ sb with heap := sb.heap.push { cls := .type "list", data := .seq ([] : List Value).toArray } } : Shared) = sC at Ic
    have eCh : sb.heap.push { cls := .type "list", data := .seq ([] : List Value).toArray } = sC.heap := by rw [← eC]
    rw [eCh] at stc fc
    generalize eHc : upd Hb D (.lst []) = Hc at Ic fc w0
    have Id := block_start Ic ok hN fc
    generalize eCells : cellsFrom (sC.heap.objs.size + 1) sc.names (cloFrom X.env.cells sc.names []) = cl at Id ⊢
    change codeAny _ _ (.compStart (.ListComp elt [⟨tg, iter, [], 0⟩] sc pos) 0 (.ref it) (.ref D) (compEnvC sc cl sC.heap.objs.size X.env))
      (compPost (model X.prog X.w) X.A X.xe none (EP X pins σ Q) (.ref D) sC.heap.objs.size) _
    have gT := hg sC Hc sC.heap.objs.size cl fp
    have gE := he pins σ sC Hc sC.heap.objs.size cl fp Ic fun b hb => (fc b hb).1
    have std : tn 0 (pushCells (sC.heap.push { cls := .type "dict", data := .dict #[] }) sc.names) :=
      T.keep _ _ _ stc fun b _ o e => pushCells_keeps _ _ _ _ (Heap.get?_push_of_some _ e)
    generalize eD4 : ({ sC with heap := pushCells (sC.heap.push { cls := .type "dict", data := .dict #[] }) sc.names } : Shared) = sD at Id ⊢
    have eDh : pushCells (sC.heap.push { cls := .type "dict", data := .dict #[] }) sc.names = sD.heap := by rw [← eD4]
    rw [eDh] at std
    have walk : codeAny (model X.prog X.w) X.A (.compLoop (.ListComp elt [⟨tg, iter, [], 0⟩] sc pos) 0 (.ref it) (.ref D) (compEnvC sc cl sC.heap.objs.size X.env))
        (compPost (model X.prog X.w) X.A X.xe none (EP X pins σ Q) (.ref D) sC.heap.objs.size) sD := by
      apply compLoop_any (fun n t => ∃ (i : Nat) (G : Hp), Inv (Bk X sc sC Hc sC.heap.objs.size cl fp) [] (wipe σ (own.map (·.2))) G t ∧ tn i t.heap ∧ (∀ b ∈ fp, G b = none) ∧ W i n G) _ m0
        ⟨0, Hc, Id, std, fun b hb => (fc b hb).1.1, w0⟩
      rintro n t ⟨i, G, It, tt, gn, wi⟩
      have fpB : ∀ {τ : L2.St} {G' : Hp} {t' : Shared}, Inv (Bk X sc sC Hc sC.heap.objs.size cl fp) [] τ G' t' → (∀ b ∈ fp, G' b = none) → ∀ b ∈ fp, FpOk (Bk X sc sC Hc sC.heap.objs.size cl fp) [] G' b := by
        intro τ G' t' B hn b hb
        have z := B.ok.exf b hb
        exact ⟨hn b hb, z.1, B.ok.exfs b hb, .inl hb, fun x c e => z.2 x c e, fun p hp => nomatch (show p ∈ ([] : List (Addr × Obj)) from hp)⟩
      rcases tu i n G wi with ⟨st, q⟩ | ⟨go, Nx, toW, step⟩
      · apply thnF (T.done (Bk X sc sC Hc sC.heap.objs.size cl fp) rfl rfl rfl hc i [] t _ G (fun _ _ => False) It (fpB It gn) tt st)
        rintro r u ⟨rfl, Iu⟩
        have Iout := out_of Ic (fun b hb => (fc b hb).1) Iu
        obtain ⟨m, nsL, _⟩ := id Iu.loc
        have freeL : G sC.heap.objs.size = none := Iu.free
        refine ⟨m, nsL, fun h' sb' => ?_⟩
        have fL := Ic.fpOk (Nat.le_refl _) freeL
        exact ⟨.ref D, G, Iout.turned (t' := u.toks) (fun b o hb e => (sb'.2 b hb).trans e) fL.1 fL.2.1 fL.2.2.2.1 fL.2.2.2.2.1 fL.2.2.2.2.2, rfl, q⟩
      · apply thnF (T.item (Bk X sc sC Hc sC.heap.objs.size cl fp) rfl rfl rfl hc i [] t _ G (fun _ _ => False) It (fpB It gn) tt go)
        rintro r t1 ⟨u, rfl, hu⟩
        refine thnF hu ?_
        rintro _ t2 ⟨x, G2, I2, rx, yl, tt2, gn2⟩
        have Ip := I2.pinned (fpB I2 gn2) (T.obj _ _ tt2)
        refine thnF (gT.run _ t2 _ G2 x u _ Ip rx (step x G2 yl)) ?_
        rintro _ t3 ⟨τ, G3, I3, wq, q3⟩
        simp only [tYes, if_true] at q3
        apply wpAny_tests_nil
        simp only [if_true]
        refine thnF (gE.run _ t3 τ G3 _ I3 q3) ?_
        rintro z t4 ⟨y, G4, I4, ry, acc, accD, accL, nx⟩
        refine app_ok (X := Bk X sc sC Hc sC.heap.objs.size cl fp) I4 accD accL ry fun t5 I5 => ?_
        obtain ⟨m, lt, wm⟩ := toW _ nx
        have still : ∀ b ∈ fp, ∀ o, t2.heap.get? b = some o → t5.heap.get? b = some o ∧ (upd G4 D (.lst (acc ++ [y]))) b = none := by
          intro b hb o e
          have z := I5.pin (b, o) (List.mem_append_right _ (List.mem_append_right _ (mem_pinsAt hb e)))
          exact ⟨z.1, z.2.1⟩
        refine ⟨m, lt, i + 1, _, (I5.unpinned (pins := [])).weak ?_ fun j v e => ?_, T.keep _ _ _ tt2 fun b hb o e => (still b hb o e).1, fun b hb => ?_, wm⟩
        · rw [← wq, wipe_length]
        · rw [← wq] at e
          exact (wipe_some e).1
        · obtain ⟨o, e, _⟩ := T.obj _ _ tt2 b hb
          exact (still b hb o e).2
    exact codeAny_compStart_list walk (T.self X.A 0 _ _ _ std walk)
  · show 0 ≤ sizeLine
    decide
end
end L2X
/-! objects taken under watch, and let go; a caught exception kept behind its clause -/
namespace L2X
open PySem PySem.Spec PyProof.Rows L2
section
variable {X : Cx} {pins : List (Addr × Obj)} {σ : L2.St} {H : Hp} {s : Shared}
/-- an object that is younger than the entry comes under watch -/
theorem adopt {a : Addr} {o : HO} {oe : Obj} (I : Inv X pins σ H s) (ha : s.heap.get? a = some oe) (nc : ∀ v, oe.data ≠ .cell v) (na : H a = none) (nL : a ≠ X.env.locals)
    (n0 : X.s_0.heap.get? a = none) (np : ∀ p ∈ X.pn ++ pins, p.1 ≠ a) (new : ObjOk X.prog X.w (upd H a o) s.heap a o) : Inv X pins σ (upd H a o) s := by
  have old : ∀ b u, H b = some u → (upd H a o) b = some u := by
    intro b u e
    rw [upd_ne (ne_of_none e na)]
    exact e
  have ent : ∀ b u, X.s_0.heap.get? b = some u → b ≠ a := by
    rintro b u e rfl
    rw [n0] at e
    cases e
  constructor
  · exact I.ok
  · exact I.os
  · exact I.bare
  · constructor
    · exact I.base.keep
    · exact I.base.slot
    · intro b u e n hx
      rw [upd_ne (ent b u e)]
      exact I.base.free b u e n hx
    · exact I.base.there
    · exact fun b xs e => old _ _ (I.base.tups b xs e)
    · exact fun b u v e => old _ _ (I.base.frzs b u v e)
    · intro b ps e
      obtain ⟨m, q⟩ := I.base.tbls b ps e
      exact ⟨m, old _ _ q⟩
  · exact I.loc
  · exact I.cell
  · rw [upd_ne nL.symm]
    exact I.free
  · intro x c e
    have nca : c ≠ a := by
      rintro rfl
      obtain ⟨v, oc, hoc, hd⟩ := I.cell x c e
      rw [ha] at hoc
      cases hoc
      exact nc _ hd
    rw [upd_ne nca]
    exact I.freeC x c e
  · intro p hp
    obtain ⟨e, n, r⟩ := I.pin p hp
    refine ⟨e, ?_, r⟩
    rw [upd_ne (np p hp)]
    exact n
  · intro b u e
    by_cases hb : b = a
    · subst hb
      rw [upd_same] at e
      cases e
      exact new
    · rw [upd_ne hb] at e
      exact (I.hok b u e).stay (fun _ _ _ q => q) (fun c q => old _ _ q) fun c xs q => old _ _ q
  · exact I.len
/-- a thing of our own is let go -/
theorem letgo {a : Addr} {φ : Heap → Prop} (I : Inv X pins σ H s) (ha : H a = some (.ext φ)) : Inv X pins σ (delH H a) s := by
  have oth : ∀ b u, H b = some u → (∀ ψ, u ≠ .ext ψ) → delH H a b = some u := by
    intro b u e ne
    rw [delH_ne]
    · exact e
    · rintro rfl
      rw [ha] at e
      cases e
      exact ne _ rfl
  have non : ∀ b, H b = none → delH H a b = none := by
    intro b e
    by_cases hb : b = a
    · rw [hb]
      exact delH_same
    · rw [delH_ne hb]
      exact e
  constructor
  · exact I.ok
  · exact I.os
  · exact I.bare
  · constructor
    · exact I.base.keep
    · exact I.base.slot
    · exact fun b u e n hx => non b (I.base.free b u e n hx)
    · exact I.base.there
    · exact fun b xs e => oth _ _ (I.base.tups b xs e) fun ψ z => nomatch z
    · exact fun b u v e => oth _ _ (I.base.frzs b u v e) fun ψ z => nomatch z
    · intro b ps e
      obtain ⟨m, q⟩ := I.base.tbls b ps e
      exact ⟨m, oth _ _ q fun ψ z => nomatch z⟩
  · exact I.loc
  · exact I.cell
  · exact non _ I.free
  · exact fun x c e => non _ (I.freeC x c e)
  · intro p hp
    obtain ⟨e, n, r⟩ := I.pin p hp
    exact ⟨e, non _ n, r⟩
  · intro b u e
    by_cases hb : b = a
    · rw [hb, delH_same] at e
      cases e
    · rw [delH_ne hb] at e
      exact (I.hok b u e).stay (fun _ _ _ q => q) (fun c q => oth _ _ q fun ψ z => nomatch z) fun c xs q => oth _ _ q fun ψ z => nomatch z
  · exact I.len
end
/-- a caught exception of the class cls stands at a -/
def ExI (cls : Value) (d : Option Addr) (a : Addr) : HO := .ext fun h => ∃ oe, h.get? a = some oe ∧ Zc cls d oe ∧ ∃ vs, oe.data = .fields vs
theorem exI_ok {P : Program} {w : World} {H : Hp} {h : Heap} {a : Addr} {cls : Value} {d : Option Addr} {oe : Obj} {vs : Array Value} (e : h.get? a = some oe) (z : Zc cls d oe) (f : oe.data = .fields vs) : ObjOk P w H h a (ExI cls d a) := by
  refine ⟨⟨oe, e, z, vs, f⟩, ⟨oe, e⟩, ?_⟩
  rintro h1 h2 ⟨o, q, r⟩ k
  exact ⟨o, k _ q, r⟩
/-- the wish of a clause 'except x as n' that takes all that comes, and behind which the exception is kept -/
def wKeep (K : PySem.W.Frag) (c : Value) (i : Nat) (ts : Addr → Value → Option Addr → TS) (D : Ends) : WX := fun cls d σ H =>
  PySem.W.exmOne K cls c = some true ∧ ∀ a, H a = none → ts a cls d { nx := fun σ' H' => D.nx (σ'.set i none) (upd H' a (ExI cls d a)), rt := fun _ _ => False } (σ.set i (some (.ref a))) H
section
variable {X : Cx} {x n : Str} {c : Value} {i : Nat} {body sr : List Stmt} {b0 : Stmt} {np p1 p2 : Pos} {tb : WX → TS} {ts : Addr → Value → Option Addr → TS}
/-- what the watch over a try's body does with an exception -/
def Watch (X : Cx) (pins : List (Addr × Obj)) (D : Ends) (hd : ExceptHandler) : Value → Shared → Prop := fun e sa =>
  wpAny (model X.prog X.w) X.A (noteFrame e X.env)
    (fun _ sb => wpAny (model X.prog X.w) X.A (setFlight e none)
      (fun _ sc => wpAny (model X.prog X.w) X.A (handleBy e X.env [hd]) (SP X pins D) X.xe sc) X.xe sb) X.xe sa
theorem watched {pins : List (Addr × Obj)} {D : Ends} (st : X.stack = X.env :: X.outer) (fr : X.env.frame = some X.env.locals) (hex : X.ex = []) (hN : X.N.Nodup) (hi : X.N[i]? = some n) (hln : X.env.kindOf n = some .local) (hc : Names X x c) (ok : X.Ok)
    (hsu : ∀ (a : Addr) (oe : Obj) (cls : Value) (d : Option Addr) (pn : List (Addr × Obj)), Zc cls d oe → (∃ vs, oe.data = .fields vs) → PSs (X.suite a ((a, oe) :: pn)) (b0 :: sr) (ts a cls d)) :
    Takes (X.tr (X.pn ++ pins) (Watch X pins D (.ExceptHandler (some (.Name x np)) (some n) (b0 :: sr) p2))) (wKeep X.K c i ts D) := by
  rintro u t ⟨a, B, sI, pj, τ, G, cls, d, rfl, Jt, toB, up, sky, na, os, ag, caught, suiteOk⟩
  have J : Inv X pins τ G sI := Jt.ofTry ok
  have fs : X.A.frames = some (X.env :: X.outer) := ok.frames.trans (congrArg some st)
  have sky' : Sky B (X.env :: X.outer) a (Zc cls d) X.env.locals t.heap := st ▸ sky
  unfold Watch
  apply Sky.land Zc.steady fs fr sky'
  intro h3 fly up3
  have J3 : Inv X pins τ G { t with heap := h3 } := J.landed toB fly.1 (up.trans up3) os ag
  obtain ⟨oe3, vs3, got3, cls3, dat3⟩ := fly.there
  have noFrame : a ∉ frs (X.env :: X.outer) := by
    intro hm
    obtain ⟨_, o', e', nf⟩ := fly.2.2.1.mem hm
    rw [got3] at e'
    cases e'
    exact nf _ dat3
  have neL : a ≠ X.env.locals := fun z => noFrame (List.mem_filterMap.mpr ⟨X.env, List.mem_cons_self, by rw [fr, z]⟩)
  have neF : a ∉ X.fs := by
    intro hm
    obtain ⟨e, he, q⟩ := List.mem_filterMap.mp hm
    exact noFrame (List.mem_filterMap.mpr ⟨e, List.mem_cons_of_mem _ he, q⟩)
  have notI : sI.heap.get? a = none := by
    cases e : sI.heap.get? a with
    | none => rfl
    | some o =>
      have z := toB a o e (by rw [st]; exact noFrame)
      rw [fly.2.1] at z
      cases z
  have not0 : X.s_0.heap.get? a = none := by
    cases e : X.s_0.heap.get? a with
    | none => rfl
    | some o =>
      obtain ⟨o', z⟩ := J.base.there a o e (by rw [hex]; exact fun z => nomatch z)
      rw [notI] at z
      cases z
  have notPin : ∀ p ∈ X.pn ++ pins, p.1 ≠ a := by
    rintro p hp rfl
    have z := (J.pin p hp).1
    rw [notI] at z
    cases z
  have S3 := J3.suite got3 dat3 na neL neF
  apply wpAny_handleBy_cons (codeAny_handlers_test _) (by intro q; cases q)
  have lookT : PySem.W.Looks (model X.prog X.w) h3 (typeOf (.ref a)) cls := by
    intro A Q E s k q
    exact wpAny_typeOf_ref (k _ _ got3) (cls3.1 ▸ q)
  have lookM := PySem.W.exm_one (M := model X.prog X.w) J3.kIn lookT caught
  have named : ∀ {Q E : Value → Shared → Prop}, Q c { t with heap := h3 } → wpAny (model X.prog X.w) (X.A.mark (some (.ref a))) (eval (.Name x np) X.env) Q E { t with heap := h3 } := by
    intro Q E q
    rcases hc with ⟨hg, hdb, hm | ⟨hm, hv, hnn⟩⟩
    · exact ld_glob (X := X.suite a ((a, oe3) :: (X.pn ++ pins))) S3 hg hm q hdb
    · exact ld_blt (X := X.suite a ((a, oe3) :: (X.pn ++ pins))) S3 hg hm hv q hnn hdb
  apply named
  apply lookM.here
  refine codeAny_handlers_suite_as ?_
  apply HandSPX.lands_againZ fly
  intro h4 fly4 up4
  have J4 : Inv X pins τ G { t with heap := h4 } := J.landed toB fly4.1 ((up.trans up3).trans up4) os ag
  obtain ⟨oe4, vs4, got4, cls4, dat4⟩ := fly4.there
  have S4 := J4.suite got4 dat4 na neL neF
  refine store_ok (X := X.suite a ((a, oe4) :: (X.pn ++ pins))) (v := .ref a) S4 hN hi (.inl hln) rfl (fun s5 S5 => ?_) (.inr hln)
  refine wpAny_mono ((hsu a oe4 cls d (X.pn ++ pins) cls4 ⟨_, dat4⟩).run [] s5 _ G _ S5 (suiteOk a na)) ?_ (fun _ _ z => False.elim z)
  rintro f s6 hsp
  cases f with
  | next =>
    obtain ⟨τ6, G6, S6, q6⟩ := hsp
    have pinned : Inv X ((a, oe4) :: pins) τ6 G6 s6 := by
      refine (S6.unsuite ok).pins_of fun p hp => ?_
      have z := S6.pin p
      cases List.mem_cons.mp hp with
      | inl e => exact z (by rw [e]; exact List.mem_append_left _ List.mem_cons_self)
      | inr e => exact z (List.mem_append_left _ (List.mem_cons_of_mem _ (List.mem_append_right _ e)))
    refine gone_ok pinned hN hi hln fun s7 J7 => ?_
    have z := J7.pin (a, oe4) (List.mem_append_right _ List.mem_cons_self)
    have J8 : Inv X pins (τ6.set i none) G6 s7 := J7.pins_of fun p hp => J7.pin p (List.mem_append_right _ (List.mem_cons_of_mem _ hp))
    exact ⟨_, _, adopt J8 z.1 z.2.2.2.2 z.2.1 z.2.2.1 not0 notPin (exI_ok z.1 cls4 dat4), q6⟩
  | brk =>
    obtain ⟨τ6, G6, S6, q6⟩ := hsp
    exact q6.elim
  | cont =>
    obtain ⟨τ6, G6, S6, q6⟩ := hsp
    exact q6.elim
  | ret u =>
    obtain ⟨v6, τ6, G6, S6, r6, q6⟩ := hsp
    exact q6.elim
/-- try: body / except x as n: suite, n's exception kept under watch behind it -/
theorem ps_try_keep (st : X.stack = X.env :: X.outer) (fr : X.env.frame = some X.env.locals) (hex : X.ex = []) (hN : X.N.Nodup) (hi : X.N[i]? = some n) (hln : X.env.kindOf n = some .local) (hc : Names X x c)
    (hb : ∀ (W : WX) (pn : List (Addr × Obj)) (xe : Value → Shared → Prop), Takes (X.tr pn xe) W → PassesOwn (model X.prog X.w) X.A X.env xe → PSs (X.tr pn xe) body (tb W))
    (hsu : ∀ (a : Addr) (oe : Obj) (cls : Value) (d : Option Addr) (pn : List (Addr × Obj)), Zc cls d oe → (∃ vs, oe.data = .fields vs) → PSs (X.suite a ((a, oe) :: pn)) (b0 :: sr) (ts a cls d)) :
    PS X (.Try body [.ExceptHandler (some (.Name x np)) (some n) (b0 :: sr) p2] [] [] p1) (fun D σ H => tb (wKeep X.K c i ts D) D σ H) := by
  constructor
  intro pins s σ H D I h
  apply wpAny_Try_except
  have run := (hb (wKeep X.K c i ts D) (X.pn ++ pins) (Watch X pins D (.ExceptHandler (some (.Name x np)) (some n) (b0 :: sr) p2)) (watched st fr hex hN hi hln hc I.ok hsu) PassesOwn.looking).run [] s σ H D (I.toTry _) h
  refine wpAny_mono run ?_ (fun _ _ z => z)
  rintro f t hsp
  cases f with
  | next =>
    obtain ⟨τ, G, J, q⟩ := hsp
    exact wpAny_execs_nil ⟨τ, G, J.ofTry I.ok, q⟩
  | brk =>
    obtain ⟨τ, G, J, q⟩ := hsp
    exact ⟨τ, G, J.ofTry I.ok, q⟩
  | cont =>
    obtain ⟨τ, G, J, q⟩ := hsp
    exact ⟨τ, G, J.ofTry I.ok, q⟩
  | ret u =>
    obtain ⟨v, τ, G, J, r, q⟩ := hsp
    exact ⟨v, τ, G, J.ofTry I.ok, r, q⟩
end
end L2X
namespace L2X
open PySem PySem.Spec PyProof.Rows L2
/-- isinstance(e, c), e a kept exception -/
def rIsX (K : PySem.W.Frag) : List V → Hp → VK → Prop := fun xs H Q => ∃ (a D : Addr) (c : V) (cv : Value) (b : Bool), xs = [.ref a, c] ∧ H a = some (ExI (.ref D) none a) ∧ ExcC K D ∧ (∀ u, RelV c u → u = cv) ∧ PySem.W.kitOne K (.ref D) cv = some b ∧ Q (.bl b) H
theorem call_isX {X : Cx} : CallR X (.builtin "isinstance") (rIsX X.K) := by
  intro pins s σ H xs us Q I r h
  obtain ⟨a, D, c, cv, b, rfl, ha, C, hcv, e, q⟩ := h
  cases r with
  | cons rx rr =>
    cases rr with
    | cons rt rr =>
      cases rr
      cases rx
      have ec := hcv _ rt
      subst ec
      obtain ⟨⟨oe, got, ⟨zc, zd⟩, vs, hv⟩, _⟩ := I.hok a _ ha
      have J : PySem.W.InstAt s.heap a oe D none := ⟨got, zc, by unfold PySem.W.notCls; rw [hv], by rw [zd]; trivial⟩
      exact PySem.W.kia_one (PySem.W.handS_kitx_exc C.hg C.hk C.hs C.hd C.ha C.hn C.ht C.hm) I.kIn J e (fun z => nomatch z) fun tk => ⟨.bl b, H, I.kept (t' := tk) fun _ _ z => z, rfl, q⟩
end L2X
namespace Dt
open PySem PySem.Spec PyProof.Rows L2 L2X
open SX (S)
/-! ### lists of marks -/
/-- tuples of a word and a truth, at the addresses vs -/
inductive Tps (H : Hp) : List V → List (Str × Bool) → Prop
  | nil : Tps H [] []
  | cons {t : Addr} {w : Str} {b : Bool} {vs : List V} {ws : List (Str × Bool)} : H t = some (.tup [.str w, .bl b]) → Tps H vs ws → Tps H (.ref t :: vs) ((w, b) :: ws)
theorem Tps.same {H H' : Hp} {vs : List V} {ws : List (Str × Bool)} (h : Tps H vs ws) (s : Same H H') : Tps H' vs ws := by
  induction h with
  | nil => exact .nil
  | cons e _ ih => exact .cons (s _ _ e) ih
theorem Tps.app {H : Hp} {vs us : List V} {ws xs : List (Str × Bool)} (h : Tps H vs ws) (g : Tps H us xs) : Tps H (vs ++ us) (ws ++ xs) := by
  induction h with
  | nil => exact g
  | cons e _ ih => exact .cons e ih
theorem Tps.len {H : Hp} {vs : List V} {ws : List (Str × Bool)} (h : Tps H vs ws) : vs.length = ws.length := by
  induction h with
  | nil => rfl
  | cons _ _ ih => exact congrArg (· + 1) ih
theorem Tps.get {H : Hp} {vs : List V} {ws : List (Str × Bool)} (h : Tps H vs ws) : ∀ {i : Nat} {x : V}, vs[i]? = some x → ∃ t w b, x = .ref t ∧ ws[i]? = some (w, b) ∧ H t = some (.tup [.str w, .bl b]) := by
  induction h with
  | nil => intro i x e; simp at e
  | @cons t w b vs ws ht _ ih =>
    intro i x e
    cases i with
    | zero =>
      have e1 : V.ref t = x := by simpa using e
      exact ⟨t, w, b, e1.symm, rfl, ht⟩
    | succ i =>
      obtain ⟨t', w', b', e1, e2, e3⟩ := ih (i := i) (x := x) (by simpa using e)
      exact ⟨t', w', b', e1, by simpa using e2, e3⟩
def Mk (H : Hp) (l : Addr) (ws : List (Str × Bool)) : Prop := ∃ vs, H l = some (.lst vs) ∧ Tps H vs ws
/-- what the law asks of the classes, for an exception of the class at D: the words by its flags, the one that comes of it -/
structure Tw (K : PySem.W.Frag) (mg : Str → Option Value) (D : Addr) (w0 : Str) : Prop where
  isi : mg "isinstance" = none
  len : mg "len" = none
  ver : mg "ValueError" = none
  vk : PySem.W.kitOne K (.ref D) (.type "ValueError") = some true
  ex : ExcC K D
  kit : ∃ b0 b1 b2 b3 b4 b5 b6 b7 b8 b9 b10 b11 : Bool, (∃ C, mg "NoPicture" = some (.ref C) ∧ PySem.W.kitOne K (.ref D) (.ref C) = some b0) ∧ (∃ C, mg "NoPlace" = some (.ref C) ∧ PySem.W.kitOne K (.ref D) (.ref C) = some b1) ∧ (∃ C, mg "NoShape" = some (.ref C) ∧ PySem.W.kitOne K (.ref D) (.ref C) = some b2) ∧ (∃ C, mg "NoSign" = some (.ref C) ∧ PySem.W.kitOne K (.ref D) (.ref C) = some b3) ∧ (∃ C, mg "NoWord" = some (.ref C) ∧ PySem.W.kitOne K (.ref D) (.ref C) = some b4) ∧ (∃ C, mg "NoLine" = some (.ref C) ∧ PySem.W.kitOne K (.ref D) (.ref C) = some b5) ∧ (∃ C, mg "NoReading" = some (.ref C) ∧ PySem.W.kitOne K (.ref D) (.ref C) = some b6) ∧ (∃ C, mg "NoTable" = some (.ref C) ∧ PySem.W.kitOne K (.ref D) (.ref C) = some b7) ∧ (∃ C, mg "NoDeed" = some (.ref C) ∧ PySem.W.kitOne K (.ref D) (.ref C) = some b8) ∧ (∃ C, mg "NoBack" = some (.ref C) ∧ PySem.W.kitOne K (.ref D) (.ref C) = some b9) ∧ (∃ C, mg "TooMany" = some (.ref C) ∧ PySem.W.kitOne K (.ref D) (.ref C) = some b10) ∧ (∃ C, mg "NoText" = some (.ref C) ∧ PySem.W.kitOne K (.ref D) (.ref C) = some b11) ∧ ([("picture", b0), ("place", b1), ("shape", b2), ("sign", b3), ("word", b4), ("line", b5), ("reading", b6), ("table", b7), ("deed", b8), ("back", b9), ("many", b10), ("text", b11)] : List (Str × Bool)).filter (·.2) = [(w0, true)]
theorem upd_at {H : Hp} {p : Addr} {o : HO} (_ : Same H (upd H p o)) : (upd H p o) p = some o := upd_same
abbrev sWord : Stmt := topS 41
theorem scWord : FnScope ["e", "marks", "met", "word", "is_it"] ["e"] (defScope sWord) := ⟨rfl, rfl, rfl, by decide +kernel, rfl, by decide +kernel, by decide +kernel⟩
def spWord (D : Addr) (w0 : Str) : Sp := fun vs H Q _ => ∃ a, vs = [.ref a] ∧ H a = some (ExI (.ref D) none a) ∧ ∀ H', Same H H' → Q (.str w0) H'
section
variable {P : Program} {w : World} {K : PySem.W.Frag} {mg : Str → Option Value} {base : Heap} {D : Addr} {w0 : Str}
theorem ok_word {f : Addr} {fd : FuncData} {k : Nat} (F : Fun K "_law_word" "_law_word" sWord f fd) (T : Tw K mg D w0) : FnOk P w K mg base CX0 (k + 1) f fd ["e"] (spWord D w0) := by
  refine F.ok scWord (fun vs H Q E h => ?_) (fun cdv A outer s H vs Q E hr h => ?_)
  · obtain ⟨a, rfl, _⟩ := h
    rfl
  · obtain ⟨a, rfl, ha, q⟩ := h
    have nd := scWord.nd
    obtain ⟨b0, b1, b2, b3, b4, b5, b6, b7, b8, b9, b10, b11, ⟨Cc0, g0, k0⟩, ⟨Cc1, g1, k1⟩, ⟨Cc2, g2, k2⟩, ⟨Cc3, g3, k3⟩, ⟨Cc4, g4, k4⟩, ⟨Cc5, g5, k5⟩, ⟨Cc6, g6, k6⟩, ⟨Cc7, g7, k7⟩, ⟨Cc8, g8, k8⟩, ⟨Cc9, g9, k9⟩, ⟨Cc10, g10, k10⟩, ⟨Cc11, g11, k11⟩, hw⟩ := T.kit
    refine ⟨_, C8.pss_cut (ps_set (i := 1) nd rfl (.inl rfl) (pe_lst (pa_cons (pe_tup (pa_cons pe_str (pa_cons (pe_callB call_isX (by rfl) T.isi PyProof.Rows.boot_isinstance (pa_cons (pv 0) (pa_cons (pe_glob (v := .ref Cc0) (by rfl) g0 rfl) pa_nil))) pa_nil))) (pa_cons (pe_tup (pa_cons pe_str (pa_cons (pe_callB call_isX (by rfl) T.isi PyProof.Rows.boot_isinstance (pa_cons (pv 0) (pa_cons (pe_glob (v := .ref Cc1) (by rfl) g1 rfl) pa_nil))) pa_nil))) pa_nil)))) (
      C8.pss_cut (ps_set (i := 1) nd rfl (.inl rfl) (pe_op op_cat (pv 1) (pe_lst (pa_cons (pe_tup (pa_cons pe_str (pa_cons (pe_callB call_isX (by rfl) T.isi PyProof.Rows.boot_isinstance (pa_cons (pv 0) (pa_cons (pe_glob (v := .ref Cc2) (by rfl) g2 rfl) pa_nil))) pa_nil))) pa_nil)))) (
      C8.pss_cut (ps_set (i := 1) nd rfl (.inl rfl) (pe_op op_cat (pv 1) (pe_lst (pa_cons (pe_tup (pa_cons pe_str (pa_cons (pe_callB call_isX (by rfl) T.isi PyProof.Rows.boot_isinstance (pa_cons (pv 0) (pa_cons (pe_glob (v := .ref Cc3) (by rfl) g3 rfl) pa_nil))) pa_nil))) (pa_cons (pe_tup (pa_cons pe_str (pa_cons (pe_callB call_isX (by rfl) T.isi PyProof.Rows.boot_isinstance (pa_cons (pv 0) (pa_cons (pe_glob (v := .ref Cc4) (by rfl) g4 rfl) pa_nil))) pa_nil))) (pa_cons (pe_tup (pa_cons pe_str (pa_cons (pe_callB call_isX (by rfl) T.isi PyProof.Rows.boot_isinstance (pa_cons (pv 0) (pa_cons (pe_glob (v := .ref Cc5) (by rfl) g5 rfl) pa_nil))) pa_nil))) pa_nil)))))) (
      C8.pss_cut (ps_set (i := 1) nd rfl (.inl rfl) (pe_op op_cat (pv 1) (pe_lst (pa_cons (pe_tup (pa_cons pe_str (pa_cons (pe_callB call_isX (by rfl) T.isi PyProof.Rows.boot_isinstance (pa_cons (pv 0) (pa_cons (pe_glob (v := .ref Cc6) (by rfl) g6 rfl) pa_nil))) pa_nil))) (pa_cons (pe_tup (pa_cons pe_str (pa_cons (pe_callB call_isX (by rfl) T.isi PyProof.Rows.boot_isinstance (pa_cons (pv 0) (pa_cons (pe_glob (v := .ref Cc7) (by rfl) g7 rfl) pa_nil))) pa_nil))) pa_nil))))) (
      C8.pss_cut (ps_set (i := 1) nd rfl (.inl rfl) (pe_op op_cat (pv 1) (pe_lst (pa_cons (pe_tup (pa_cons pe_str (pa_cons (pe_callB call_isX (by rfl) T.isi PyProof.Rows.boot_isinstance (pa_cons (pv 0) (pa_cons (pe_glob (v := .ref Cc8) (by rfl) g8 rfl) pa_nil))) pa_nil))) (pa_cons (pe_tup (pa_cons pe_str (pa_cons (pe_callB call_isX (by rfl) T.isi PyProof.Rows.boot_isinstance (pa_cons (pv 0) (pa_cons (pe_glob (v := .ref Cc9) (by rfl) g9 rfl) pa_nil))) pa_nil))) (pa_cons (pe_tup (pa_cons pe_str (pa_cons (pe_callB call_isX (by rfl) T.isi PyProof.Rows.boot_isinstance (pa_cons (pv 0) (pa_cons (pe_glob (v := .ref Cc10) (by rfl) g10 rfl) pa_nil))) pa_nil))) pa_nil)))))) (
      C8.pss_cut (ps_set (i := 1) nd rfl (.inl rfl) (pe_op op_cat (pv 1) (pe_lst (pa_cons (pe_tup (pa_cons pe_str (pa_cons (pe_callB call_isX (by rfl) T.isi PyProof.Rows.boot_isinstance (pa_cons (pv 0) (pa_cons (pe_glob (v := .ref Cc11) (by rfl) g11 rfl) pa_nil))) pa_nil))) pa_nil)))) (
      pss_cons (ps_setLc (i := 2) (own := [("word", 3), ("is_it", 4)]) (g := gTup K 2 (gCons (gName 3) (gCons (gName 4) gNil))) (by rfl) nd rfl rfl (sw_true rfl rfl rfl (by decide +kernel)) (pi_list (pv 1)) (blkOk_by (N := ["e", "marks", "met", "word", "is_it"]) (sc := defScope sWord) (by decide +kernel)) (fun _ _ _ _ _ => pg_tup rfl (pgs_cons (pg_name (i := 3) nd rfl (Or.inl rfl)) (pgs_cons (pg_name (i := 4) nd rfl (Or.inl rfl)) pgs_nil))) (fun _ _ _ _ _ => pts_one (pt_val (pv 4))) (fun _ _ _ _ _ => pv 3)) (
      pss_one (ps_ret (pe_ifExp (PW.pt (pw_and (pt_cmpR op_eq (pe_callB call_len_seq (by rfl) T.len PySem.boot_len (pa_cons (pv 2) pa_nil)) pe_int (nomark _)) (pw_and1 (pt_val (pe_callB call_isX (by rfl) T.isi PyProof.Rows.boot_isinstance (pa_cons (pv 0) (pa_cons (pe_bltn (v := .ty "ValueError") (u := .type "ValueError") (by rfl) T.ver (by decide +kernel) rfl) pa_nil))))))) (pe_ix ix_list (pv 2) pe_int (fun _ _ => rfl)) pe_str))))))))), ?_⟩
    refine ⟨fun σ' H' => ∃ l, σ' = [some (.ref a), some (.ref l), none, none, none] ∧ Same H H' ∧ Mk H' l [("picture", b0), ("place", b1)], ?_, ?_⟩
    · have ha0 : H a = some (ExI (.ref D) none a) := ha
      have S0 : Same H H := Same.refl _
      refine ⟨.ref a, rfl, a, D, .ref Cc0, .ref Cc0, b0, rfl, ha0, T.ex, (fun u r => r), k0, by show 2 ≤ sizeLine; decide, fun t0 ht0 => ?_⟩
      have s0 := same_upd (o := .tup [V.str "picture", V.bl b0]) ht0
      have S1 := S0.trans s0
      have ha1 := s0 _ _ ha0
      have f0 := upd_at (o := .tup [V.str "picture", V.bl b0]) s0
      refine ⟨.ref a, rfl, a, D, .ref Cc1, .ref Cc1, b1, rfl, ha1, T.ex, (fun u r => r), k1, by show 2 ≤ sizeLine; decide, fun t1 ht1 => ?_⟩
      have s1 := same_upd (o := .tup [V.str "place", V.bl b1]) ht1
      have S2 := S1.trans s1
      have ha2 := s1 _ _ ha1
      have f0 := s1 _ _ f0
      have f1 := upd_at (o := .tup [V.str "place", V.bl b1]) s1
      refine ⟨by show 2 ≤ sizeLine; decide, fun l hl => ?_⟩
      have sl := same_upd (o := .lst [.ref t0, .ref t1]) hl
      have tl : Tps _ [.ref t0, .ref t1] [("picture", b0), ("place", b1)] := .cons (sl _ _ f0) (.cons (sl _ _ f1) (.nil))
      have ll := upd_at (o := .lst [.ref t0, .ref t1]) sl
      exact ⟨l, rfl, S2.trans sl, _, ll, tl⟩
    · rintro _ G1 ⟨l1, rfl, sm1, vs1, hv1, tp1⟩
      refine ⟨fun σ' H' => ∃ l, σ' = [some (.ref a), some (.ref l), none, none, none] ∧ Same H H' ∧ Mk H' l [("picture", b0), ("place", b1), ("shape", b2)], ?_, ?_⟩
      · have ha0 : G1 a = some (ExI (.ref D) none a) := sm1 _ _ ha
        have S0 : Same G1 G1 := Same.refl _
        refine ⟨.ref l1, rfl, .ref a, rfl, a, D, .ref Cc2, .ref Cc2, b2, rfl, ha0, T.ex, (fun u r => r), k2, by show 2 ≤ sizeLine; decide, fun t2 ht2 => ?_⟩
        have s2 := same_upd (o := .tup [V.str "shape", V.bl b2]) ht2
        have S1 := S0.trans s2
        have ha1 := s2 _ _ ha0
        have f2 := upd_at (o := .tup [V.str "shape", V.bl b2]) s2
        refine ⟨by show 1 ≤ sizeLine; decide, fun l hl => ?_⟩
        have sl := same_upd (o := .lst [.ref t2]) hl
        have tl : Tps _ [.ref t2] [("shape", b2)] := .cons (sl _ _ f2) (.nil)
        have ll := upd_at (o := .lst [.ref t2]) sl
        have hl0 := sl _ _ (S1 _ _ hv1)
        have tp0 := (tp1.same S1).same sl
        have ln0 := tp0.len
        refine ⟨l1, l, _, _, rfl, rfl, hl0, ll, ?_, fun p hp => ?_⟩
        · rw [ln0]
          show 3 ≤ sizeLine
          decide
        · have sp := same_upd (o := .lst (vs1 ++ [.ref t2])) hp
          exact ⟨p, rfl, ((sm1.trans S1).trans sl).trans sp, _, upd_at sp, (tp0.app tl).same sp⟩
      · rintro _ G2 ⟨l2, rfl, sm2, vs2, hv2, tp2⟩
        refine ⟨fun σ' H' => ∃ l, σ' = [some (.ref a), some (.ref l), none, none, none] ∧ Same H H' ∧ Mk H' l [("picture", b0), ("place", b1), ("shape", b2), ("sign", b3), ("word", b4), ("line", b5)], ?_, ?_⟩
        · have ha0 : G2 a = some (ExI (.ref D) none a) := sm2 _ _ ha
          have S0 : Same G2 G2 := Same.refl _
          refine ⟨.ref l2, rfl, .ref a, rfl, a, D, .ref Cc3, .ref Cc3, b3, rfl, ha0, T.ex, (fun u r => r), k3, by show 2 ≤ sizeLine; decide, fun t3 ht3 => ?_⟩
          have s3 := same_upd (o := .tup [V.str "sign", V.bl b3]) ht3
          have S1 := S0.trans s3
          have ha1 := s3 _ _ ha0
          have f3 := upd_at (o := .tup [V.str "sign", V.bl b3]) s3
          refine ⟨.ref a, rfl, a, D, .ref Cc4, .ref Cc4, b4, rfl, ha1, T.ex, (fun u r => r), k4, by show 2 ≤ sizeLine; decide, fun t4 ht4 => ?_⟩
          have s4 := same_upd (o := .tup [V.str "word", V.bl b4]) ht4
          have S2 := S1.trans s4
          have ha2 := s4 _ _ ha1
          have f3 := s4 _ _ f3
          have f4 := upd_at (o := .tup [V.str "word", V.bl b4]) s4
          refine ⟨.ref a, rfl, a, D, .ref Cc5, .ref Cc5, b5, rfl, ha2, T.ex, (fun u r => r), k5, by show 2 ≤ sizeLine; decide, fun t5 ht5 => ?_⟩
          have s5 := same_upd (o := .tup [V.str "line", V.bl b5]) ht5
          have S3 := S2.trans s5
          have ha3 := s5 _ _ ha2
          have f3 := s5 _ _ f3
          have f4 := s5 _ _ f4
          have f5 := upd_at (o := .tup [V.str "line", V.bl b5]) s5
          refine ⟨by show 3 ≤ sizeLine; decide, fun l hl => ?_⟩
          have sl := same_upd (o := .lst [.ref t3, .ref t4, .ref t5]) hl
          have tl : Tps _ [.ref t3, .ref t4, .ref t5] [("sign", b3), ("word", b4), ("line", b5)] := .cons (sl _ _ f3) (.cons (sl _ _ f4) (.cons (sl _ _ f5) (.nil)))
          have ll := upd_at (o := .lst [.ref t3, .ref t4, .ref t5]) sl
          have hl0 := sl _ _ (S3 _ _ hv2)
          have tp0 := (tp2.same S3).same sl
          have ln0 := tp0.len
          refine ⟨l2, l, _, _, rfl, rfl, hl0, ll, ?_, fun p hp => ?_⟩
          · rw [ln0]
            show 6 ≤ sizeLine
            decide
          · have sp := same_upd (o := .lst (vs2 ++ [.ref t3, .ref t4, .ref t5])) hp
            exact ⟨p, rfl, ((sm2.trans S3).trans sl).trans sp, _, upd_at sp, (tp0.app tl).same sp⟩
        · rintro _ G3 ⟨l3, rfl, sm3, vs3, hv3, tp3⟩
          refine ⟨fun σ' H' => ∃ l, σ' = [some (.ref a), some (.ref l), none, none, none] ∧ Same H H' ∧ Mk H' l [("picture", b0), ("place", b1), ("shape", b2), ("sign", b3), ("word", b4), ("line", b5), ("reading", b6), ("table", b7)], ?_, ?_⟩
          · have ha0 : G3 a = some (ExI (.ref D) none a) := sm3 _ _ ha
            have S0 : Same G3 G3 := Same.refl _
            refine ⟨.ref l3, rfl, .ref a, rfl, a, D, .ref Cc6, .ref Cc6, b6, rfl, ha0, T.ex, (fun u r => r), k6, by show 2 ≤ sizeLine; decide, fun t6 ht6 => ?_⟩
            have s6 := same_upd (o := .tup [V.str "reading", V.bl b6]) ht6
            have S1 := S0.trans s6
            have ha1 := s6 _ _ ha0
            have f6 := upd_at (o := .tup [V.str "reading", V.bl b6]) s6
            refine ⟨.ref a, rfl, a, D, .ref Cc7, .ref Cc7, b7, rfl, ha1, T.ex, (fun u r => r), k7, by show 2 ≤ sizeLine; decide, fun t7 ht7 => ?_⟩
            have s7 := same_upd (o := .tup [V.str "table", V.bl b7]) ht7
            have S2 := S1.trans s7
            have ha2 := s7 _ _ ha1
            have f6 := s7 _ _ f6
            have f7 := upd_at (o := .tup [V.str "table", V.bl b7]) s7
            refine ⟨by show 2 ≤ sizeLine; decide, fun l hl => ?_⟩
            have sl := same_upd (o := .lst [.ref t6, .ref t7]) hl
            have tl : Tps _ [.ref t6, .ref t7] [("reading", b6), ("table", b7)] := .cons (sl _ _ f6) (.cons (sl _ _ f7) (.nil))
            have ll := upd_at (o := .lst [.ref t6, .ref t7]) sl
            have hl0 := sl _ _ (S2 _ _ hv3)
            have tp0 := (tp3.same S2).same sl
            have ln0 := tp0.len
            refine ⟨l3, l, _, _, rfl, rfl, hl0, ll, ?_, fun p hp => ?_⟩
            · rw [ln0]
              show 8 ≤ sizeLine
              decide
            · have sp := same_upd (o := .lst (vs3 ++ [.ref t6, .ref t7])) hp
              exact ⟨p, rfl, ((sm3.trans S2).trans sl).trans sp, _, upd_at sp, (tp0.app tl).same sp⟩
          · rintro _ G4 ⟨l4, rfl, sm4, vs4, hv4, tp4⟩
            refine ⟨fun σ' H' => ∃ l, σ' = [some (.ref a), some (.ref l), none, none, none] ∧ Same H H' ∧ Mk H' l [("picture", b0), ("place", b1), ("shape", b2), ("sign", b3), ("word", b4), ("line", b5), ("reading", b6), ("table", b7), ("deed", b8), ("back", b9), ("many", b10)], ?_, ?_⟩
            · have ha0 : G4 a = some (ExI (.ref D) none a) := sm4 _ _ ha
              have S0 : Same G4 G4 := Same.refl _
              refine ⟨.ref l4, rfl, .ref a, rfl, a, D, .ref Cc8, .ref Cc8, b8, rfl, ha0, T.ex, (fun u r => r), k8, by show 2 ≤ sizeLine; decide, fun t8 ht8 => ?_⟩
              have s8 := same_upd (o := .tup [V.str "deed", V.bl b8]) ht8
              have S1 := S0.trans s8
              have ha1 := s8 _ _ ha0
              have f8 := upd_at (o := .tup [V.str "deed", V.bl b8]) s8
              refine ⟨.ref a, rfl, a, D, .ref Cc9, .ref Cc9, b9, rfl, ha1, T.ex, (fun u r => r), k9, by show 2 ≤ sizeLine; decide, fun t9 ht9 => ?_⟩
              have s9 := same_upd (o := .tup [V.str "back", V.bl b9]) ht9
              have S2 := S1.trans s9
              have ha2 := s9 _ _ ha1
              have f8 := s9 _ _ f8
              have f9 := upd_at (o := .tup [V.str "back", V.bl b9]) s9
              refine ⟨.ref a, rfl, a, D, .ref Cc10, .ref Cc10, b10, rfl, ha2, T.ex, (fun u r => r), k10, by show 2 ≤ sizeLine; decide, fun t10 ht10 => ?_⟩
              have s10 := same_upd (o := .tup [V.str "many", V.bl b10]) ht10
              have S3 := S2.trans s10
              have ha3 := s10 _ _ ha2
              have f8 := s10 _ _ f8
              have f9 := s10 _ _ f9
              have f10 := upd_at (o := .tup [V.str "many", V.bl b10]) s10
              refine ⟨by show 3 ≤ sizeLine; decide, fun l hl => ?_⟩
              have sl := same_upd (o := .lst [.ref t8, .ref t9, .ref t10]) hl
              have tl : Tps _ [.ref t8, .ref t9, .ref t10] [("deed", b8), ("back", b9), ("many", b10)] := .cons (sl _ _ f8) (.cons (sl _ _ f9) (.cons (sl _ _ f10) (.nil)))
              have ll := upd_at (o := .lst [.ref t8, .ref t9, .ref t10]) sl
              have hl0 := sl _ _ (S3 _ _ hv4)
              have tp0 := (tp4.same S3).same sl
              have ln0 := tp0.len
              refine ⟨l4, l, _, _, rfl, rfl, hl0, ll, ?_, fun p hp => ?_⟩
              · rw [ln0]
                show 11 ≤ sizeLine
                decide
              · have sp := same_upd (o := .lst (vs4 ++ [.ref t8, .ref t9, .ref t10])) hp
                exact ⟨p, rfl, ((sm4.trans S3).trans sl).trans sp, _, upd_at sp, (tp0.app tl).same sp⟩
            · rintro _ G5 ⟨l5, rfl, sm5, vs5, hv5, tp5⟩
              refine ⟨fun σ' H' => ∃ l, σ' = [some (.ref a), some (.ref l), none, none, none] ∧ Same H H' ∧ Mk H' l [("picture", b0), ("place", b1), ("shape", b2), ("sign", b3), ("word", b4), ("line", b5), ("reading", b6), ("table", b7), ("deed", b8), ("back", b9), ("many", b10), ("text", b11)], ?_, ?_⟩
              · have ha0 : G5 a = some (ExI (.ref D) none a) := sm5 _ _ ha
                have S0 : Same G5 G5 := Same.refl _
                refine ⟨.ref l5, rfl, .ref a, rfl, a, D, .ref Cc11, .ref Cc11, b11, rfl, ha0, T.ex, (fun u r => r), k11, by show 2 ≤ sizeLine; decide, fun t11 ht11 => ?_⟩
                have s11 := same_upd (o := .tup [V.str "text", V.bl b11]) ht11
                have S1 := S0.trans s11
                have ha1 := s11 _ _ ha0
                have f11 := upd_at (o := .tup [V.str "text", V.bl b11]) s11
                refine ⟨by show 1 ≤ sizeLine; decide, fun l hl => ?_⟩
                have sl := same_upd (o := .lst [.ref t11]) hl
                have tl : Tps _ [.ref t11] [("text", b11)] := .cons (sl _ _ f11) (.nil)
                have ll := upd_at (o := .lst [.ref t11]) sl
                have hl0 := sl _ _ (S1 _ _ hv5)
                have tp0 := (tp5.same S1).same sl
                have ln0 := tp0.len
                refine ⟨l5, l, _, _, rfl, rfl, hl0, ll, ?_, fun p hp => ?_⟩
                · rw [ln0]
                  show 12 ≤ sizeLine
                  decide
                · have sp := same_upd (o := .lst (vs5 ++ [.ref t11])) hp
                  exact ⟨p, rfl, ((sm5.trans S1).trans sl).trans sp, _, upd_at sp, (tp0.app tl).same sp⟩
              · rintro _ G6 ⟨l6, rfl, sm6, vs6, hv6, tp6⟩
                have ln := tp6.len
                have ln' : vs6.length = 12 := ln
                refine ⟨.ref l6, rfl, l6, rfl, ⟨_, SqL.of hv6⟩, fun Dd hDd => lc_list (K := K) (a := l6) (xs := vs6) (fun i H2 => Same G6 H2 ∧ H2 Dd = some (.lst (((([("picture", b0), ("place", b1), ("shape", b2), ("sign", b3), ("word", b4), ("line", b5), ("reading", b6), ("table", b7), ("deed", b8), ("back", b9), ("many", b10), ("text", b11)] : List (Str × Bool)).take i).filter (·.2)).map fun p => V.str p.1))) ⟨same_upd hDd, upd_same⟩ (fun i H2 _ z => SqL.of (z.1 _ _ hv6)) ?_ ?_⟩
                · rintro i x H2 hi ⟨sm, h2⟩
                  obtain ⟨t, w1, b1, rfl, hw1, ht⟩ := tp6.get hi
                  have hil : i < 12 := by
                    rcases Nat.lt_or_ge i vs6.length with z | z
                    · omega
                    · rw [List.getElem?_eq_none z] at hi
                      cases hi
                  refine ⟨t, [.str w1, .bl b1], rfl, SqT.of (sm _ _ ht), rfl, .str w1, [.bl b1], rfl, .bl b1, [], rfl, rfl, rfl, .bl b1, rfl, b1, rfl, ?_⟩
                  have tk := take_snoc hw1
                  cases b1 with
                  | false =>
                    refine iteF ⟨sm, ?_⟩
                    rw [tk, List.filter_append, List.map_append]
                    simpa using h2
                  | true =>
                    refine iteT ⟨.str w1, rfl, _, h2, ?_, ?_, ?_⟩
                    · rw [List.length_map]
                      refine Nat.lt_of_le_of_lt (List.length_filter_le _ _) ?_
                      rw [List.length_take]
                      exact small1000 (by omega)
                    · exact fun b o e => by
                        rw [upd_ne (ne_of_none e hDd)]
                        exact sm _ _ e
                    · rw [upd_same, tk, List.filter_append, List.map_append]
                      rfl
                · rintro H2 ⟨sm, h2⟩
                  have e12 : (([("picture", b0), ("place", b1), ("shape", b2), ("sign", b3), ("word", b4), ("line", b5), ("reading", b6), ("table", b7), ("deed", b8), ("back", b9), ("many", b10), ("text", b11)] : List (Str × Bool)).take vs6.length) = ([("picture", b0), ("place", b1), ("shape", b2), ("sign", b3), ("word", b4), ("line", b5), ("reading", b6), ("table", b7), ("deed", b8), ("back", b9), ("many", b10), ("text", b11)] : List (Str × Bool)) := by
                    rw [ln']
                    rfl
                  rw [e12, hw] at h2
                  refine ⟨.ref Dd, rfl, Dd, _, rfl, .inl (SqL.of h2), rfl, _, rfl, iteT ?_⟩
                  refine ⟨.ref a, rfl, a, D, .ty "ValueError", .type "ValueError", true, rfl, (sm6.trans sm) _ _ ha, T.ex, (fun u r => r), T.vk, true, rfl, iteT ?_⟩
                  exact ⟨.ref Dd, rfl, Dd, _, 0, .str w0, rfl, rfl, SqL.of h2, atI_nat (j := 0) rfl, q _ (sm6.trans sm)⟩
end
end Dt
/-! lambdas as values: made, kept under watch, called through a def -/
namespace L2X
open PySem PySem.Spec PyProof.Rows L2 LamX
/-- the lambda of these cells stands at f, its code at c -/
def CloO (q : Str) (pr : Arguments) (body : Expr) (sc : Scope) (cl : List (Str × Addr)) (c f : Addr) : HO :=
  .ext fun h => ∃ pm ctv, h.get? f = some (PySem.W.kla_obj "<lambda>" q pr body sc cl pm c ctv)
theorem cloO_ok {P : Program} {w : World} {H : Hp} {h : Heap} {q : Str} {pr : Arguments} {body : Expr} {sc : Scope} {cl : List (Str × Addr)} {c f : Addr} {pm ctv : Value}
    (e : h.get? f = some (PySem.W.kla_obj "<lambda>" q pr body sc cl pm c ctv)) : ObjOk P w H h f (CloO q pr body sc cl c f) := by
  refine ⟨⟨pm, ctv, e⟩, ⟨_, e⟩, ?_⟩
  rintro h1 h2 ⟨pm', ctv', e'⟩ k
  exact ⟨pm', ctv', k _ e'⟩
section
variable {X : Cx}
def lamQ (X : Cx) : Str := X.env.qual ++ "<lambda>"
/-- what the making of a lambda asks, and what comes of it -/
def tLamV (T : List (Addr × Str)) (X : Cx) (pr : Arguments) (body : Expr) (sc : Scope) : TE := fun _ H Q =>
  Tabs T H ∧ ∀ (f c : Addr) (H1 : Hp), ExtN H H1 → Tabs T H1 → H1 c = some (CodeO c (lamQ X)) → H1 f = none → H f = none →
    (∀ b q' pr' body' sc' cl' c', H1 b = some (CloO q' pr' body' sc' cl' c' b) → c ≠ b) → Q (.ref f) (upd H1 f (CloO (lamQ X) pr body sc (cloFrom X.env.cells sc.names []) c f))
theorem pe_lamV {T : List (Addr × Str)} {c P : Addr} {pr : Arguments} {body : Expr} {sc : Scope} {pos : Pos} (TB : TabB X.base X.mg c P) (hcode : X.env.code = .ref c) (hm : (P, lamQ X) ∈ T)
    (hu : ∀ p ∈ T, p.1 = P → p.2 = lamQ X) (L : LamS X.env.scope sc) (hdef : defaultsOf pr X.env = ([], [])) : PE X (.Lambda pr body sc pos) (tLamV T X pr body sc) := by
  constructor
  rintro pins s σ H Q I ⟨hT, h⟩
  obtain ⟨ps, hP, trip, known⟩ := hT _ hm
  have clOk := closure_ok (L.has I.ok)
  have globs : s.heap.Ns mainGlobals X.mg := I.mod.glob.keeps I.bk
  have code0 := TB.code.keeps I.bk
  have blt0 : s.heap.BuiltinsAt X.mg P := TB.bm.keeps I.bk
  have atP : s.heap.get? P = some { cls := .none, data := .fields ps } := I.hok P _ hP
  -- the end of both ways: the def object is new
  have fin : ∀ (h' : Heap) (tk : Nat) (c' : Addr) (pm ctv : Value) (H1 : Hp), s.heap.objs.size ≤ h'.objs.size →
      Inv X pins σ H1 { s with heap := h'.push (PySem.W.kla_obj "<lambda>" (lamQ X) pr body sc (cloFrom X.env.cells sc.names []) pm c' ctv), toks := tk } →
      ExtN H H1 → Tabs T H1 → H1 c' = some (CodeO c' (lamQ X)) → H1 h'.objs.size = none →
      EP X pins σ Q (.ref h'.objs.size) { s with heap := h'.push (PySem.W.kla_obj "<lambda>" (lamQ X) pr body sc (cloFrom X.env.cells sc.names []) pm c' ctv), toks := tk } := by
    intro h' tk c' pm ctv H1 big J ext tabs hc n1
    have got : (h'.push (PySem.W.kla_obj "<lambda>" (lamQ X) pr body sc (cloFrom X.env.cells sc.names []) pm c' ctv)).get? h'.objs.size = _ := Heap.get?_push_size _ rfl
    have older : ∀ {b : Addr} {o : Obj}, s.heap.get? b = some o → b ≠ h'.objs.size := fun e => Nat.ne_of_lt (Nat.lt_of_lt_of_le (Heap.lt_size e) big)
    have n0 : X.s_0.heap.get? h'.objs.size = none := Heap.get?_none_of_le (Nat.le_trans I.sz big)
    have nL : h'.objs.size ≠ X.env.locals := Nat.ne_of_gt (Nat.lt_of_lt_of_le I.lt big)
    have np : ∀ p ∈ X.pn ++ pins, p.1 ≠ h'.objs.size := fun p hp => older (I.pin p hp).1
    have apart : ∀ b q' pr' body' sc' cl' c2, H1 b = some (CloO q' pr' body' sc' cl' c2 b) → c' ≠ b := by
      rintro b q' pr' body' sc' cl' c2 hb rfl
      obtain ⟨⟨pm2, ct2, e1⟩, _⟩ := J.hok c' _ hb
      obtain ⟨⟨oc, vs, t, e2, e3, _⟩, _⟩ := J.hok c' _ hc
      rw [e1] at e2
      cases e2
      cases e3
    refine ⟨.ref h'.objs.size, _, adopt J got (fun v z => ?_) n1 nL n0 np (cloO_ok got), rfl, h _ c' H1 ext tabs hc n1 (I.hok.fresh big) apart⟩
    cases z
  refine PySem.W.kla_eval hdef ?_
  cases among : codeAmong pos ps.toList with
  | some cv =>
    obtain ⟨c', rfl, hc'⟩ := known pos cv among
    refine PySem.W.kla_makeFunctionHit (mg := X.mg) (c := c) (P := P) (ps := ps) clOk I.ok.glob globs hcode code0 atP trip among blt0 ?_
    intro ctv h' tk keeps big
    exact fin h' tk c' _ ctv H big (I.kept fun b o e => Heap.get?_push_of_some _ (keeps b o e)) (ExtN.refl H) hT hc' (I.hok.fresh big)
  | none =>
    refine PySem.W.kla_makeFunction (mg := X.mg) (c := c) (P := P) (ps := ps) clOk I.ok.glob globs hcode code0 atP trip among TB.gP blt0 ?_
    intro c' ctv h' tk keeps ge lt rec tab
    obtain ⟨c2, oc, vs, t, e2, hoc, hd, hv⟩ := rec
    cases e2
    have big : s.heap.objs.size ≤ h'.objs.size := Nat.le_of_lt (Nat.lt_of_le_of_lt ge lt)
    have nc : H c' = none := I.hok.fresh ge
    have nPc : P ≠ c' := ne_of_none hP nc
    have J := inv_table (t' := tk) (more := #[rawInt pos.line, rawInt pos.col, .ref c']) (q := lamQ X) I hP
      (h' := h'.push (PySem.W.kla_obj "<lambda>" (lamQ X) pr body sc (cloFrom X.env.cells sc.names []) ((X.mg "__name__").getD .none) c' ctv))
      (fun b o hb e => Heap.get?_push_of_some _ (keeps b o hb e)) (Heap.get?_push_of_some _ tab) ge ⟨oc, vs, t, Heap.get?_push_of_some _ hoc, hd, hv⟩
    have ext : ExtN H (upd (upd H P (.tbl (ps ++ #[rawInt pos.line, rawInt pos.col, .ref c']))) c' (CodeO c' (lamQ X))) := by
      intro b o e notTab
      have nb : b ≠ P := by
        rintro rfl
        rw [hP] at e
        cases e
        exact notTab ps rfl
      rw [upd_ne (ne_of_none e nc), upd_ne nb]
      exact e
    have lst : (ps ++ #[rawInt pos.line, rawInt pos.col, .ref c']).toList = ps.toList ++ [rawInt pos.line, rawInt pos.col, .ref c'] := by simp
    refine fin h' tk c' _ ctv _ big J ext ?_ upd_same ?_
    · intro p hp
      by_cases hb : p.1 = P
      · refine ⟨ps ++ #[rawInt pos.line, rawInt pos.col, .ref c'], ?_, ?_, ?_⟩
        · rw [hb, upd_ne nPc, upd_same]
        · rw [lst]
          exact PySem.TriplesOk_snoc _ _ _ _ trip
        · intro p' cv hcv
          rw [hu p hp hb]
          rw [lst] at hcv
          cases among_app _ trip hcv with
          | inl z =>
            obtain ⟨c0, e1, e2⟩ := known p' cv z
            exact ⟨c0, e1, ext _ _ e2 codeO_ne⟩
          | inr z => exact ⟨c', z, upd_same⟩
      · obtain ⟨ps', a1, a2, a3⟩ := hT p hp
        refine ⟨ps', ?_, a2, ?_⟩
        · rw [upd_ne (ne_of_none a1 nc), upd_ne hb]
          exact a1
        · intro p' cv hcv
          obtain ⟨c0, e1, e2⟩ := a3 p' cv hcv
          exact ⟨c0, e1, ext _ _ e2 codeO_ne⟩
    · have n1 : h'.objs.size ≠ c' := Nat.ne_of_gt lt
      have n2 : h'.objs.size ≠ P := Nat.ne_of_gt (Nat.lt_of_lt_of_le (Heap.lt_size atP) big)
      rw [upd_ne n1, upd_ne n2]
      exact I.hok.fresh big
/-- a def that calls what it gets, a; TT: what it makes of the lambda's reading (with room for calls of its own) -/
def GivesR (X : Cx) (k : Nat) (Ng : List Str) (x : Str) (sg : Scope) (g : Addr) (cdg : Value) (bg : List Stmt) (a : Str) (q : Str) (TT : (XK → Hp → VK → Prop) → Hp → VK → Prop) : Prop :=
  ∀ (f c : Addr) (s : Shared) (H : Hp) (Q : VK) (tl : XK → Hp → VK → Prop), Room k (X.A.deeper (envOfC x sg s.heap.objs.size g cdg)) →
    (∀ (W : WX) (pn : List (Addr × Obj)) (xe : Value → Shared → Prop) (E : XK) (q1 q2 : Pos),
      Takes ((cxOf L2.CX0 X.prog X.w X.K X.mg X.base Ng x sg g cdg X.A X.stack s H L2.E0).tr pn xe) W → (∀ cls d σ' H', E cls d H' → W cls d σ' H') →
      PE ((cxOf L2.CX0 X.prog X.w X.K X.mg X.base Ng x sg g cdg X.A X.stack s H L2.E0).tr pn xe) (.Call (.Name a q1) [] [] q2)
        (fun σZ HZ Q => σZ[0]? = some (some (.ref f)) ∧ HZ c = some (CodeO c q) ∧ tl E HZ Q)) →
    H c = some (CodeO c q) → TT tl H Q →
    ∃ t, PSs (cxOf L2.CX0 X.prog X.w X.K X.mg X.base Ng x sg g cdg X.A X.stack s H L2.E0).nox bg t ∧ t { nx := fun _ H' => Q .non H', rt := Q } (L2.start Ng [.ref f]) H
/-- f(w) in a comprehension's block, w one of the frame's own lambdas, f a def that calls what it gets: the reading -/
def tCloCall {ι : Type} (X : Cx) (iw : Nat) (pr : ι → Arguments) (body : ι → Expr) (sc : ι → Scope) (t : ι → XK → TE) (TT : (XK → Hp → VK → Prop) → Hp → VK → Prop) (σ0 : L2.St) : TE := fun τ H Q =>
  ∃ (j : ι) (f c : Addr), τ[iw]? = some (some (.ref f)) ∧ H f = some (CloO (lamQ X) (pr j) (body j) (sc j) (cloFrom X.env.cells (sc j).names []) c f) ∧ H c = some (CodeO c (lamQ X)) ∧ c ≠ f ∧
    TT (fun E H' Q' => t j E σ0 H' Q') (delH H f) Q
theorem pe_clocall {ι : Type} {pins : List (Addr × Obj)} {σ0 : L2.St} {s1 : Shared} {H1 : Hp} {csc : Scope} {L : Addr} {cl : List (Str × Addr)} {fp : List Addr} (I1 : Inv X pins σ0 H1 s1) (hfp : ∀ b ∈ fp, FpOk X pins H1 b)
    {pr : ι → Arguments} {body : ι → Expr} {sc : ι → Scope} {t : ι → XK → TE} {TT : (XK → Hp → VK → Prop) → Hp → VK → Prop} {iw : Nat} {x a y : Str} {g : Addr} {k : Nat} {pg : Arguments} {bg : List Stmt} {sg : Scope} {dV kV doc pm cdv ct oc : Value} {an od : Option Addr}
    {osl : Array (Option Value)} {Ng : List Str} {p p' pos : Pos}
    (hg : Gl (Bk X csc s1 H1 L cl fp) x) (hm : X.mg x = some (.ref g)) (hk : PySem.W.keepIn X.K (.ref g) = true)
    (lk : X.K.lookup g = some ⟨oc, od, .func (PySem.W.fnOf x x pg bg sg dV kV doc pm an cdv ct), osl⟩) (hcg : PySem.W.codeIn X.K cdv x = true) (hb : L2.Binds X.K (PySem.W.fnOf x x pg bg sg dV kV doc pm an cdv ct) [a] [])
    (Sg : FnScope Ng [a] sg) (hNg : Ng[0]? = some a) (hva : Vis sg a) (hG : GivesR X (k + 1) Ng x sg g cdv bg a (lamQ X) TT) (hr : Room (k + 2) X.A)
    (hL : ∀ j, LamS X.env.scope (sc j)) (hbind : ∀ (j : ι) (q : Str) (cl : List (Str × Addr)) (pm cv ctv : Value), bindArgs (PySem.W.kla_fn "<lambda>" q (pr j) (body j) (sc j) cl pm cv ctv) ⟨[], []⟩ = pure [])
    (hbody : ∀ (j : ι) (A : Around) (outer : List Env) (s : Shared) (H : Hp) (E : XK) (f c : Addr), Room k (A.deeper (lamEnv X (sc j) s.heap.objs.size f c)) → PE (lamCx X A outer s H E (sc j) f c) (body j) (t j E))
    (hw : PE (Bk X csc s1 H1 L cl fp) (.Name y p') (tVar iw))
    (hdb : (x == ("__debug__" : Str)) = false := by decide) (hd : (a == ("__debug__" : Str)) = false := by decide) (hcd : (a == ("__classdict__" : Str)) = false := by decide) :
    PE (Bk X csc s1 H1 L cl fp) (.Call (.Name x p) [.Name y p'] [] pos) (tCloCall X iw pr body sc t TT σ0) := by
  constructor
  rintro pj s τ H Q B ⟨j, f, c, slot, clo, code, neC, h⟩
  refine wpAny_Call_Name_kw (ld_glob B hg hm ?_ hdb)
  have args : PA (Bk X csc s1 H1 L cl fp) [.Name y p'] (tCons (tVar iw) tNil) := pa_cons hw pa_nil
  refine PySem.W.callWith_K (h₀ := X.base) B.ok.mod.kin hk (thn (args.run pos pj s τ H (fun vs G => vs = [.ref f] ∧ G = H) B ⟨.ref f, slot, rfl, rfl⟩) ?_) (by rfl) (by rfl)
  rintro us s2 ⟨vs, G, B2, rel, rfl, rfl⟩
  refine ⟨B2.kIn, ?_⟩
  cases rel with
  | cons r0 rn =>
    cases rn
    cases r0
    have B3 := letgo B2 clo
    obtain ⟨⟨pm', ctv', got⟩, _⟩ := B2.hok f _ clo
    have offF : f ∉ frs X.stack := by
      intro hm'
      have z := B2.stkFree f hm'
      rw [clo] at z
      cases z
    have Iout : Inv X pins σ0 (delH G f) s2 := out_of I1 hfp B3
    have rc : codeAny (model X.prog X.w) X.A (.call (.ref g) ⟨[.ref f], []⟩) (CR L2.CX0 X.stack X.prog X.w (delH G f) s2 Q L2.E0) s2 := by
      refine run_ofS (N := Ng) (ps := [a]) (us := [.ref f]) (vs := [.ref f]) lk hcg Sg hr B3.env0 (hb s2 [.ref f] B3.kIn rfl) (.cons rfl .nil) rfl ?_
      intro hr'
      obtain ⟨t', ht', hq'⟩ := hG f c s2 (delH G f) Q (fun E H' Q' => t j E σ0 H' Q') hr'
        (fun W pn xe E q1 q2 tk hW => pe_act (i := 0) Iout (hL j) got delH_same offF (hbind j _ _ _ _ _) tk hW hr' (fun A outer s H hr2 => hbody j A outer s H E f c hr2) hNg hva hd hcd)
        (by rw [delH_ne neC]; exact code) h
      exact ⟨t', ht'.nox, hq'⟩
    refine wpAny_call (codeAny_mono rc ?_)
    rintro r s3 hq
    cases r with
    | error e => exact (show False from hq).elim
    | ok fl =>
      cases fl with
      | ret u => exact B3.after hq
      | next => exact False.elim hq
      | brk => exact False.elim hq
      | cont => exact False.elim hq
end
end L2X
namespace Dt
open PySem PySem.Spec PyProof.Rows L2 L2X LamX
theorem takesLen {X : Cx} {W : WX} (tk : Takes X W) : Takes X (fun cls d σ H => σ.length = X.N.length → W cls d σ H) := by
  rintro u s' ⟨a, B, sI, pins, σ, H, cls, d, e, I, nb, up, sky, na, os, ag, w⟩
  exact tk u s' ⟨a, B, sI, pins, σ, H, cls, d, e, I, nb, up, sky, na, os, ag, w I.len⟩
abbrev sRef : Stmt := topS 42
theorem scRef : FnScope ["work", "error", "e"] ["work"] (defScope sRef) := ⟨rfl, rfl, rfl, by decide +kernel, rfl, by decide +kernel, by decide +kernel⟩
/-- what _law_refused makes of a work that is refused by the class at D: the word w0 -/
def TRef (D : Addr) (w0 : Str) : (XK → Hp → VK → Prop) → Hp → VK → Prop := fun tl H Q => ∀ R : VK,
  tl (fun cls d H' => cls = .ref D ∧ d = none ∧ ∀ H'', Same H' H'' → Q (.str w0) H'') H R
theorem ref_gives {X : Cx} {k : Nat} {q w0 : Str} {g fW CD D : Addr} {fdW : FuncData} {cdg : Value}
    (GW : FnOk X.prog X.w X.K X.mg X.base CX0 (k + 1) fW fdW ["e"] (spWord D w0)) (mW : X.mg "_law_word" = some (.ref fW)) (kW : PySem.W.keepIn X.K (.ref fW) = true) (bW : Binds X.K fdW ["e"] [])
    (mD : X.mg "DotError" = some (.ref CD)) (exm : PySem.W.exmOne X.K (.ref D) (.ref CD) = some true) :
    GivesR X (k + 1) ["work", "error", "e"] "_law_refused" (defScope sRef) g cdg (defBody sRef) "work" q (TRef D w0) := by
  intro f c s H Q tl hr act hc h
  have nd := scRef.nd
  refine ⟨_, pss_cons (ps_set (i := 1) nd rfl (.inl rfl) pe_non)
    (C8.pss_cut (ps_try_keep (i := 2) (c := .ref CD) (ts := fun a cls d => tAsg (tVar 2) (gName 1))
        (tb := fun W Dn σ H => ∃ Ech : XK, (∀ cls d σ' H', Ech cls d H' → σ'.length = 3 → W cls d σ' H') ∧ σ[0]? = some (some (.ref f)) ∧ H c = some (CodeO c q) ∧ tl Ech H (fun _ H' => Dn.nx σ H'))
        rfl rfl rfl nd rfl rfl ⟨rfl, by decide, .inl mD⟩ (fun W pn xe tk _ => ?_) (fun a oe cls d pn _ _ => pss_one (ps_set (i := 1) nd rfl (.inl rfl) (pv 2))))
      (pss_one (ps_ret (pe_ifExp (pt_cmp (pc_isN (pv 1))) pe_str (pe_call GW hr (by rfl) mW kW bW .nil pass0 (pa_cons (pv 1) pa_nil)))))), ?_⟩
  · constructor
    rintro pins s' σ H' Dn I ⟨Ech, hW, h1, h2, h3⟩
    exact (pss_one (ps_expr (act _ pn xe Ech _ _ (takesLen tk) hW))).run pins s' σ H' Dn I ⟨h1, h2, h3⟩
  · refine ⟨fun σ' H' => ∃ a y0, σ' = [y0, some (.ref a), none] ∧ H' a = some (ExI (.ref D) none a) ∧ ∀ H'', Same H' H'' → Q (.str w0) H'', ?_, ?_⟩
    · refine ⟨_, ?_, rfl, hc, h _⟩
      rintro cls d σ' H' ⟨rfl, rfl, hq⟩ hlen
      refine ⟨exm, fun a ha => ?_⟩
      match σ', hlen with
      | [y0, y1, y2], _ => exact ⟨.ref a, rfl, a, y0, rfl, upd_same, fun H'' sm => hq H'' ((same_upd ha).trans sm)⟩
    · rintro σ' H' ⟨a, y0, rfl, ha, hq⟩
      refine ⟨.ref a, rfl, _, rfl, iteF ?_⟩
      exact ⟨.ref a, rfl, a, rfl, ha, hq⟩
end Dt
namespace L2X
open PySem PySem.Spec PyProof.Rows L2
section
variable {X : Cx}
/-- a tuple once is itself -/
theorem tuple_mul1 (l : Addr) (items : Array Value) (n : Nat) (dd : Option Addr) (sl : Array (Option Value)) (u : Tok) :
    Meets (Builtin.«tuple.__mul__» ⟨[.ref l, .int 1 u], []⟩) (fun _ R s => s.heap.get? l = some { cls := .type "tuple", dict := dd, data := .seq items n, slots := sl } ∧ R (.ok (.ret (Value.ref l))) s) :=
  .of_wp fun prog w A R s h => by
    obtain ⟨hp, g, d, tk, os⟩ := s
    obtain ⟨hl, h⟩ := h
    have f1 := AutoSeq1.idx_int
    wp_walk using wpAny_loadPart' hl
    exact ⟨_, rfl, h⟩
/-- list(text) -/
theorem vals_signs : ∀ (l : List Nat) (its : List Value), l.length = its.length → (∀ (j : Nat) (v : Value), its[j]? = some v → ∃ (c : Nat) (u : Tok), l[j]? = some c ∧ v = Value.str ⟨#[c]⟩ u) → Vals (l.map fun c => V.str ⟨#[c]⟩) its
  | [], [], _, _ => .nil
  | [], _ :: _, h, _ => by cases h
  | _ :: _, [], h, _ => by cases h
  | c :: r, v :: t, h, g => by
    obtain ⟨c', u, e1, e2⟩ := g 0 v rfl
    have e3 : c = c' := Option.some.inj e1
    subst e3
    refine .cons ⟨u, e2⟩ (vals_signs r t (Nat.succ.inj h) fun j w e => ?_)
    obtain ⟨c2, u2, e4, e5⟩ := g (j + 1) w e
    exact ⟨c2, u2, e4, e5⟩
theorem call_listS (hc : X.calm = true) : CallR X (.type "list") (fun xs H Q => ∃ x : Str, xs = [.str x] ∧ x.length ≤ sizeLine ∧ ∀ l, H l = none → Q (.ref l) (upd H l (.lst (x.cps.toList.map fun c => V.str ⟨#[c]⟩)))) := by
  intro pins s σ H xs us Q I r h
  obtain ⟨x, rfl, hx, q⟩ := h
  obtain ⟨u, rfl, t, rfl⟩ := vals1 r
  refine call_list_str (I.ok.hd hc) x t (fun h' tk acc c' keeps got it => ?_) hx
  have hl : x.cps.toList.length = acc.toList.length := by
    rw [Array.length_toList, Array.length_toList, it.1]
  have vs := vals_signs x.cps.toList acc.toList hl fun j v e => by
    obtain ⟨c, u', e1, e2⟩ := it.2 j v (by rw [← Array.getElem?_toList]; exact e)
    exact ⟨c, u', by rw [Array.getElem?_toList]; exact e1, e2⟩
  refine ⟨.ref s.heap.objs.size, _, I.laid (t' := tk) keeps (Nat.le_refl _) ?_, rfl, q _ (I.hok.fresh (Nat.le_refl _))⟩
  refine ⟨?_, acc.toList, c', vs, ?_⟩
  · rw [List.length_map]
    exact hx
  · rw [got]
/-- t * n, n from 1 on -/
def rRepA (K : PySem.W.Frag) : R2 := fun x y H Q => ∃ l k xs, x = .ref l ∧ y = .int k ∧ SqT K H l xs ∧ xs ≠ [] ∧ 1 ≤ k ∧ k ≤ 1000 ∧ xs.length ≤ 1000 ∧ (k = 1 → Q (.ref l) H) ∧ (2 ≤ k → ∀ p, H p = none → Q (.ref p) (upd H p (.tup (List.replicate k.toNat xs).flatten)))
theorem op_repA : OpR X (binaryOp .Mult) (rRepA X.K) := by
  intro pins s σ H x y v u Q I rx ry h
  obtain ⟨l, k, xs, rfl, rfl, hT, hne, h1, h2, hz, q1, q2⟩ := h
  by_cases e1 : k = 1
  · subst e1
    cases rx
    obtain ⟨t, rfl⟩ := ry
    obtain ⟨its, _, ⟨⟨cls, dd, data, sl⟩, got, hc, n, hd⟩, _⟩ := I.tuple hT
    simp only at hc hd
    subst hc hd
    have once := tuple_mul1 l its.toArray n dd sl t
    have back := int_rmul_tuple 1 t l its.toArray n dd sl
    refine wpAny_binaryOp_repeat_ref (T := "tuple") (U := "int") (by decide) ⟨_, got, rfl⟩ (fun s' => typeIs_int s' 1 t)
      noFill_tuple_mul F.fills_int_mul F.slot_int_rmul repeat_tuple F.slot_int_index.lookup ?_
    refine call_meets F.slot_int_rmul (typeIs_int s 1 t) F.entry_int_rmul (F.args_int_rmul_2 _ _) back ⟨got, rfl, ⟨_, got, rfl⟩, ?_⟩
    refine call_meets F.slot_tuple_mul ⟨_, got, rfl⟩ F.entry_tuple_mul (F.args_tuple_mul_2 _ _) once ⟨got, ?_⟩
    exact ⟨.ref l, H, I, rfl, q1 rfl⟩
  · exact op_repT pins s σ H _ _ v u Q I rx ry ⟨l, k, xs, rfl, rfl, hT, hne, by omega, h2, hz, q2 (by omega)⟩
end
end L2X
namespace Dt
open PySem PySem.Spec PyProof.Rows L2 L2X
open SX (S)
/-! ### rows and pictures by their signs -/
theorem cnt_two : ∀ l : List Nat, cnt 35 l + cnt 46 l ≤ l.length ∧ (cnt 35 l + cnt 46 l = l.length ↔ ∀ c ∈ l, c = 35 ∨ c = 46)
  | [] => ⟨by rw [cnt_nil, cnt_nil]; exact Int.le_refl _, by rw [cnt_nil, cnt_nil]; exact ⟨fun _ _ h => (List.not_mem_nil h).elim, fun _ => rfl⟩⟩
  | n :: r => by
    obtain ⟨h1, h2⟩ := cnt_two r
    rw [cnt_cons, cnt_cons, List.length_cons]
    have e : ∀ c ∈ n :: r, (c = 35 ∨ c = 46) ↔ True ∧ (c = 35 ∨ c = 46) := fun c _ => by simp
    by_cases a : n = 35
    · subst a
      rw [if_pos rfl, if_neg (by decide)]
      refine ⟨by omega, ⟨fun z => ?_, fun z => ?_⟩⟩
      · have z2 := h2.mp (by omega)
        intro c hc
        rcases List.mem_cons.mp hc with q | q
        · exact .inl q
        · exact z2 c q
      · have := h2.mpr fun c hc => z c (List.mem_cons_of_mem _ hc)
        omega
    · by_cases b : n = 46
      · subst b
        rw [if_neg (by decide), if_pos rfl]
        refine ⟨by omega, ⟨fun z => ?_, fun z => ?_⟩⟩
        · have z2 := h2.mp (by omega)
          intro c hc
          rcases List.mem_cons.mp hc with q | q
          · exact .inr q
          · exact z2 c q
        · have := h2.mpr fun c hc => z c (List.mem_cons_of_mem _ hc)
          omega
      · rw [if_neg a, if_neg b]
        refine ⟨by omega, ⟨fun z => by omega, fun z => ?_⟩⟩
        rcases z n List.mem_cons_self with q | q
        · exact absurd q a
        · exact absurd q b
theorem rowOk_S (l : List Nat) : rowOk (.str (S l)) = (decide (1 ≤ l.length) && decide (l.length ≤ 120) && decide (∀ c ∈ l, c = 35 ∨ c = 46)) := by
  have e : decide (Txt.count (S l) "#" + Txt.count (S l) "." = ((S l).length : Int)) = decide (∀ c ∈ l, c = 35 ∨ c = 46) := by
    rw [s_hash, s_dot, count_cnt, count_cnt, SX.S_len]
    exact Bool.eq_iff_iff.mpr ⟨fun h => decide_eq_true ((cnt_two l).2.mp (of_decide_eq_true h)), fun h => decide_eq_true ((cnt_two l).2.mpr (of_decide_eq_true h))⟩
  rw [rowOk_str, e, SX.S_len]
theorem rowOk_rv {wide : Nat} {l : List Nat} (h : RowR wide l) (w0 : 1 ≤ wide) (w1 : wide ≤ 120) : rowOk (rv l) = true := by
  unfold rv
  rw [rowOk_S, h.len, decide_eq_true w0, decide_eq_true w1, decide_eq_true h.sg]
  rfl
theorem rowOk_bad {l : List Nat} {c : Nat} (hc : c ∈ l) (h1 : c ≠ 35) (h2 : c ≠ 46) : rowOk (.str (S l)) = false := by
  rw [rowOk_S, decide_eq_false (p := ∀ c ∈ l, c = 35 ∨ c = 46), Bool.and_false]
  intro z
  rcases z c hc with q | q
  · exact h1 q
  · exact h2 q
theorem rowOk_len {l : List Nat} (h : l.length = 0 ∨ 120 < l.length) : rowOk (.str (S l)) = false := by
  rw [rowOk_S]
  rcases h with h | h
  · rw [decide_eq_false (by omega : ¬ 1 ≤ l.length)]
    rfl
  · rw [decide_eq_false (by omega : ¬ l.length ≤ 120), Bool.and_false, Bool.false_and]
theorem lenV_S (l : List Nat) : lenV (.str (S l)) = (l.length : Int) := by
  show ((S l).length : Int) = _
  rw [SX.S_len]
theorem picOk_pic {high wide : Nat} {rs : List (List Nat)} (h : PicR high wide rs) : picOk (rs.map rv) = true := by
  unfold picOk
  have a1 : decide (1 ≤ (rs.map rv).length) = true := decide_eq_true (by rw [List.length_map, h.len]; exact h.h0)
  have a2 : decide ((rs.map rv).length ≤ 60) = true := decide_eq_true (by rw [List.length_map, h.len]; exact h.h1)
  have a3 : (rs.map rv).all rowOk = true := List.all_eq_true.mpr fun y hy => by
    obtain ⟨l, hl, rfl⟩ := List.mem_map.mp hy
    exact rowOk_rv (h.row l hl) h.w0 h.w1
  have len : ∀ y ∈ rs.map rv, lenV y = (wide : Int) := fun y hy => by
    obtain ⟨l, hl, rfl⟩ := List.mem_map.mp hy
    unfold rv
    rw [lenV_S, (h.row l hl).len]
  have a4 : ((rs.map rv).all fun y => decide (lenV y = lenV ((rs.map rv).headD .non))) = true := List.all_eq_true.mpr fun y hy => by
    refine decide_eq_true ?_
    rw [len y hy]
    cases e : rs.map rv with
    | nil =>
      rw [e] at hy
      cases hy
    | cons x r =>
      have z := len x (by rw [e]; exact List.mem_cons_self)
      exact z.symm
  rw [a1, a2, a3, a4]
  rfl
/-- one row put in the place of another: no picture -/
theorem picOk_odd {high wide r : Nat} {rs : List (List Nat)} {one : V} (h : PicR high wide rs) (hr : r < high) (b : rowOk one = false ∨ (2 ≤ high ∧ lenV one ≠ (wide : Int))) :
    picOk ((rs.map rv).take r ++ [one] ++ (rs.map rv).drop (r + 1)) = false := by
  cases e : picOk ((rs.map rv).take r ++ [one] ++ (rs.map rv).drop (r + 1)) with
  | false => rfl
  | true =>
    exfalso
    unfold picOk at e
    rw [Bool.and_eq_true, Bool.and_eq_true, Bool.and_eq_true] at e
    obtain ⟨⟨⟨_, _⟩, e3⟩, e4⟩ := e
    have m1 : one ∈ (rs.map rv).take r ++ [one] ++ (rs.map rv).drop (r + 1) := by simp
    rcases b with b | ⟨b1, b2⟩
    · have z := List.all_eq_true.mp e3 one m1
      rw [b] at z
      cases z
    · have len : ∀ y ∈ rs.map rv, lenV y = (wide : Int) := fun y hy => by
        obtain ⟨l, hl, rfl⟩ := List.mem_map.mp hy
        unfold rv
        rw [lenV_S, (h.row l hl).len]
      obtain ⟨y, m2, hy⟩ : ∃ y, y ∈ (rs.map rv).take r ++ [one] ++ (rs.map rv).drop (r + 1) ∧ y ∈ rs.map rv := by
        have hl : (rs.map rv).length = high := by rw [List.length_map, h.len]
        by_cases hr0 : r = 0
        · subst hr0
          have : 1 < (rs.map rv).length := by omega
          refine ⟨(rs.map rv)[1], ?_, List.getElem_mem _⟩
          refine List.mem_append_right _ ?_
          exact List.mem_of_getElem? (i := 0) (by rw [List.getElem?_drop, List.getElem?_eq_getElem this])
        · have : 0 < (rs.map rv).length := by omega
          refine ⟨(rs.map rv)[0], ?_, List.getElem_mem _⟩
          refine List.mem_append_left _ (List.mem_append_left _ ?_)
          exact List.mem_of_getElem? (i := 0) (by rw [List.getElem?_take, if_pos (by omega), List.getElem?_eq_getElem this])
      have z1 := of_decide_eq_true (List.all_eq_true.mp e4 one m1)
      have z2 := of_decide_eq_true (List.all_eq_true.mp e4 y m2)
      exact b2 (z1.trans (z2.symm.trans (len y hy)))
end Dt
/-! the end of a law whose own body asks who is around it: the law is run at its caller alone -/
namespace L2X
open PySem PySem.Spec PyProof.Rows L2 LamX
abbrev tabO : Obj := { cls := .none, data := .fields #[] }
abbrev lstO (vs : List Value) : Obj := { cls := .type "list", data := .seq vs.toArray }
/-- what is under watch when the law begins: the tables; the script, if the written part has it not -/
def beginH (K : PySem.W.Frag) (cs : List (Addr × Addr)) (a : Addr) (vs : List Value) (ns : List Int) : Hp := fun b =>
  if b ∈ cs.map (·.2) then some (.tbl #[]) else if b = a ∧ K.lookup a = none then some (.frz (lstO vs) (.lst (ns.map V.int))) else none
section
variable {P : Program} {w : World} {K : PySem.W.Frag} {mg mb : Str → Option Value} {fa a : Addr} {cs : List (Addr × Addr)} {s : Shared} {vs : List Value} {ns : List Int}
theorem begin_tab {p : Addr × Addr} (hp : p ∈ cs) : beginH K cs a vs ns p.2 = some (.tbl #[]) := by
  unfold beginH
  exact if_pos (List.mem_map.mpr ⟨p, hp, rfl⟩)
theorem begin_some {b : Addr} {u : HO} (e : beginH K cs a vs ns b = some u) : (b ∈ cs.map (·.2) ∧ u = .tbl #[]) ∨ (b = a ∧ K.lookup a = none ∧ u = .frz (lstO vs) (.lst (ns.map V.int))) := by
  unfold beginH at e
  split at e
  · rename_i h
    exact .inl ⟨h, (Option.some.inj e).symm⟩
  · split at e
    · rename_i h
      exact .inr ⟨h.1, h.2, (Option.some.inj e).symm⟩
    · cases e
theorem begin_none (hT : ∀ p ∈ cs, s.heap.get? p.2 = some tabO) (ha : s.heap.get? a = some (lstO vs)) {b : Addr} {o : Obj} (e : s.heap.get? b = some o) (n1 : o ≠ tabO) (n2 : o ≠ lstO vs) : beginH K cs a vs ns b = none := by
  cases q : beginH K cs a vs ns b with
  | none => rfl
  | some u =>
    exfalso
    rcases begin_some q with ⟨hm, _⟩ | ⟨rfl, _, _⟩
    · obtain ⟨p, hp, rfl⟩ := List.mem_map.mp hm
      rw [hT p hp] at e
      exact n1 (Option.some.inj e).symm
    · rw [ha] at e
      exact n2 (Option.some.inj e).symm
theorem law_callG (KX : K.In s.heap) (hns : s.heap.Ns mainGlobals mg) (hb : s.heap.Ns builtinsNs mb) (hbb : ∀ x : Str, x ≠ "__name__" → mb x = bootBuiltins x) (hlim : s.heap.NoLimit) (hg : s.gens = #[])
    (hT : ∀ p ∈ cs, s.heap.get? p.2 = some tabO) (nT : ∀ p ∈ cs, K.lookup p.2 = none) (C : ∀ p ∈ cs, PySem.W.CodeHd s.heap p.1 p.2)
    (hbm : ∃ (bm : Addr) (ob : Obj), mg "__builtins__" = some (.ref bm) ∧ bm ≠ builtinsNs ∧ s.heap.get? bm = some ob ∧ ob.cls = .type "module" ∧ ob.dict = some builtinsNs ∧ ob.data = .plain)
    (ha : s.heap.get? a = some (lstO vs)) (hi : IntsAre vs ns) (hl : ns.length ≤ sizeLine)
    (run : ∀ (base : Heap) (H : Hp), K.In base → base.Ns mainGlobals mg → (∀ p ∈ cs, TabB base mg p.1 p.2) → (∀ p ∈ cs, H p.2 = some (.tbl #[])) → SqL K H a (ns.map V.int) → Env0 P w K mg base callerA [] s H →
      codeAny (model P w) callerA (.call (.ref fa) ⟨[.ref a], []⟩) (CR L2.CX0 [] P w H s (fun v _ => v = .bl true) L2.E0) s) :
    codeAny (model P w) callerA (.call (.ref fa) ⟨[.ref a], []⟩) (fun r s' => r = .ok (.ret (.bool true)) ∧ OldK s.heap s'.heap ∧ s'.os = s.os ∧ AllBare s'.gens) s := by
  have rv := vals_ints hi
  have lv := hi.length
  generalize eH : beginH K cs a vs ns = H
  have tabs : ∀ p ∈ cs, H p.2 = some (.tbl #[]) := fun p hp => by rw [← eH]; exact begin_tab hp
  have off : ∀ {b : Addr} {o : Obj}, s.heap.get? b = some o → o ≠ tabO → o ≠ lstO vs → H b = none := fun e n1 n2 => by rw [← eH]; exact begin_none hT ha e n1 n2
  have isT : ∀ {b : Addr}, b ∈ cs.map (·.2) → s.heap.get? b = some tabO := by
    intro b hm
    obtain ⟨p, hp, rfl⟩ := List.mem_map.mp hm
    exact hT p hp
  have aT : a ∉ cs.map (·.2) := by
    intro hm
    have z := isT hm
    rw [ha] at z
    cases z
  -- the ground
  have nsK : ∀ {b : Addr} {m : Str → Option Value}, s.heap.Ns b m → (hidT s.heap H).Ns b m := by
    rintro b m ⟨o, es, ep, e, d, r⟩
    refine ⟨o, es, ep, hidT_get e (off e ?_ ?_), d, r⟩ <;> (rintro rfl; cases d)
  have inK : K.In (hidT s.heap H) := by
    intro b o e
    refine hidT_get (KX b o e) ?_
    cases q : H b with
    | none => rfl
    | some u =>
      exfalso
      rw [← eH] at q
      rcases begin_some q with ⟨hm, _⟩ | ⟨rfl, hk, _⟩
      · obtain ⟨p, hp, rfl⟩ := List.mem_map.mp hm
        rw [nT p hp] at e
        cases e
      · rw [hk] at e
        cases e
  have mod : L2.Mod K mg (hidT s.heap H) := by
    obtain ⟨mc, h1, h2⟩ := hlim
    exact ⟨inK, nsK hns, ⟨mb, nsK hb, hbb⟩, ⟨mc, nsK h1, h2⟩⟩
  have tabB : ∀ p ∈ cs, TabB (hidT s.heap H) mg p.1 p.2 := by
    intro p hp
    have tp := hT p hp
    obtain ⟨og, es, ep, gg, gd, _⟩ := id hns
    constructor
    · obtain ⟨o, us, file, tf, flags, tg, inF, text, tt, e1, r1, r2, r3, r4, r5, r6, r7, r8, hne⟩ := C p hp
      refine ⟨o, us, file, tf, flags, tg, inF, text, tt, hidT_get e1 (off e1 ?_ ?_), r1, r2, r3, r4, r5, r6, r7, r8, hne⟩
      · rintro rfl
        cases r2
        simp at r3
      · rintro rfl
        cases r2
    · obtain ⟨bm, ob, b1, b2, b3, b4, b5, b6⟩ := hbm
      refine ⟨bm, ob, b1, b2, ?_, ?_, hidT_get b3 (off b3 ?_ ?_), b4, b5, b6⟩
      · rintro rfl
        rw [gg] at b3
        cases b3
        rw [gd] at b6
        cases b6
      · rintro rfl
        rw [tp] at b3
        cases b3
        cases b6
      · rintro rfl
        cases b6
      · rintro rfl
        cases b6
    · intro z
      rw [z, tp] at gg
      cases gg
      cases gd
  have hokH : HOk P w H s.heap := by
    intro b u e
    rw [← eH] at e
    rcases begin_some e with ⟨hm, rfl⟩ | ⟨rfl, _, rfl⟩
    · exact isT hm
    · exact ⟨ha, by rw [List.length_map]; exact hl, vs, _, rv, ha⟩
  have sq : SqL K H a (ns.map V.int) := by
    cases hk : K.lookup a with
    | some o =>
      have z := KX a o hk
      rw [ha] at z
      cases z
      exact .inr ⟨_, vs.toArray, _, hk, rfl, rfl, rfl, by rw [List.size_toArray, lv]; exact hl, by simpa using rv⟩
    | none =>
      refine .inl (.inr ⟨lstO vs, ?_⟩)
      rw [← eH]
      unfold beginH
      rw [if_neg aT, if_pos ⟨rfl, hk⟩]
  have e0 : Env0 P w K mg (hidT s.heap H) callerA [] s H :=
    by
    constructor
    · rfl
    · exact mod
    · exact fun b o e => of_hidT e
    · exact Nat.le_of_eq (hidT_size _ _)
    · trivial
    · exact fun b hb => nomatch (show b ∈ ([] : List Addr) from hb)
    · exact hokH
    · exact .of_eq hg
  refine codeAny_mono (run _ H inK (nsK hns) tabB tabs sq e0) ?_
  rintro r s' h
  cases r with
  | error e => exact (show False from h).elim
  | ok fl =>
    cases fl with
    | next => exact False.elim h
    | brk => exact False.elim h
    | cont => exact False.elim h
    | ret u =>
      obtain ⟨v, H', os, bare, un, hok', rr, rfl⟩ := h
      obtain rfl : u = Value.bool true := rr
      have stay : ∀ b o, b ∉ cs.map (·.2) → s.heap.get? b = some o → s'.heap.get? b = some o := by
        intro b o nb e
        cases q : H b with
        | none => exact un.keep b o e q (fun z => nomatch z) (fun z => nomatch z)
        | some u =>
          have q2 := q
          rw [← eH] at q2
          rcases begin_some q2 with ⟨hm, _⟩ | ⟨rfl, _, rfl⟩
          · exact absurd hm nb
          · obtain ⟨z, _⟩ := hok' _ _ (un.frzs _ _ _ q)
            rw [ha] at e
            cases e
            exact z
      have grow : ∀ p ∈ cs, ∃ more : Array Value, s'.heap.get? p.2 = some { cls := .none, data := .fields more } := by
        intro p hp
        obtain ⟨more, z⟩ := un.tbls p.2 #[] (tabs p hp)
        exact ⟨_, hok' p.2 _ z⟩
      refine ⟨rfl, ⟨fun b o e => ?_, fun b o e => ?_⟩, os, bare⟩
      · by_cases hb : b ∈ cs.map (·.2)
        · obtain ⟨p, hp, rfl⟩ := List.mem_map.mp hb
          obtain ⟨more, hm⟩ := grow p hp
          rw [hT p hp] at e
          cases e
          exact .inr (.inl ⟨((C p hp).tab (hT p hp)).isCodeTable, rfl, #[], more, rfl, by rw [Array.empty_append]; exact hm⟩)
        · exact .inl (stay b o hb e)
      · by_cases hb : b ∈ cs.map (·.2)
        · obtain ⟨p, hp, rfl⟩ := List.mem_map.mp hb
          obtain ⟨more, hm⟩ := grow p hp
          exact ⟨_, hm⟩
        · exact ⟨o, stay b o hb e⟩
end
end L2X
namespace Dt
open PySem PySem.Spec PyProof.Rows L2 L2X
open SX (S)
/-! ### tuples cut and put together, whatever objects they are -/
theorem cutV_to (xs : List V) (r : Nat) : cutV xs none (some (r : Int)) = xs.take r := by
  unfold cutV
  rw [HT.sIx_none, HT.sIx_nat, List.drop_zero, Nat.sub_zero]
  by_cases h : r ≤ xs.length
  · rw [Nat.min_eq_left h]
  · rw [Nat.min_eq_right (by omega), List.take_of_length_le (Nat.le_refl _), List.take_of_length_le (by omega)]
theorem cutV_from (xs : List V) (r : Nat) : cutV xs (some (r : Int)) none = xs.drop r := by
  unfold cutV
  rw [HT.sIx_none, HT.sIx_nat]
  by_cases h : r ≤ xs.length
  · rw [Nat.min_eq_left h, List.take_of_length_le (by rw [List.length_drop]; omega)]
  · rw [Nat.min_eq_right (by omega), List.drop_of_length_le (Nat.le_refl _), List.drop_of_length_le (by omega), List.take_nil]
theorem cutV_whole {xs : List V} {lo hi : Option Int} (h : HT.sIx xs.length 0 lo = 0 ∧ HT.sIx xs.length xs.length hi = xs.length) : cutV xs lo hi = xs := by
  unfold cutV
  rw [h.1, h.2, List.drop_zero, Nat.sub_zero, List.take_length]
theorem sl_any {K : PySem.W.Frag} {H : Hp} {a : Addr} {xs : List V} {lo hi : Option Int} {Q : VK} (h : H a = some (.tup xs)) (q : ∀ z H2, Same H H2 → H2 z = some (.tup (cutV xs lo hi)) → Q (.ref z) H2) : rSlA K (.ref a) lo hi H Q :=
  ⟨a, xs, rfl, SqT.of h, fun w => q a H (Same.refl H) (by rw [cutV_whole w]; exact h), fun _ p hp => q p _ (same_upd hp) upd_same⟩
theorem cat_any {K : PySem.W.Frag} {H : Hp} {a b : Addr} {xs ys : List V} {Q : VK} (h : H a = some (.tup xs)) (g : H b = some (.tup ys)) (hz : xs.length + ys.length ≤ sizeLine) (q : ∀ z H2, Same H H2 → H2 z = some (.tup (xs ++ ys)) → Q (.ref z) H2) :
    rCatA K (.ref a) (.ref b) H Q :=
  ⟨a, b, xs, ys, rfl, rfl, SqT.of h, SqT.of g, hz, fun e => q b H (Same.refl H) (by rw [e]; exact g), fun _ e => q a H (Same.refl H) (by rw [e, List.append_nil]; exact h), fun _ _ p hp => q p _ (same_upd hp) upd_same⟩
theorem rep_any {K : PySem.W.Frag} {H : Hp} {a : Addr} {x : V} {k : Nat} {Q : VK} (h : H a = some (.tup [x])) (h1 : 1 ≤ k) (h2 : k ≤ 1000) (q : ∀ z H2, Same H H2 → H2 z = some (.tup (List.replicate k x)) → Q (.ref z) H2) :
    rRepA K (.ref a) (.int k) H Q := by
  have flat : ∀ n : Nat, (List.replicate n [x]).flatten = List.replicate n x := by
    intro n
    induction n with
    | zero => rfl
    | succ n ih => rw [List.replicate_succ, List.flatten_cons, ih, List.replicate_succ]; rfl
  refine ⟨a, k, [x], rfl, rfl, SqT.of h, (by simp), by omega, by omega, by show 1 ≤ 1000; decide, fun e => q a H (Same.refl H) ?_, fun _ p hp => q p _ (same_upd hp) ?_⟩
  · have : k = 1 := by omega
    subst this
    exact h
  · rw [upd_same, Int.toNat_natCast, flat]
theorem rep_anyI {K : PySem.W.Frag} {H : Hp} {a : Addr} {x : V} {i : Int} {k : Nat} {Q : VK} (e : i = (k : Int)) (h : H a = some (.tup [x])) (h1 : 1 ≤ k) (h2 : k ≤ 1000) (q : ∀ z H2, Same H H2 → H2 z = some (.tup (List.replicate k x)) → Q (.ref z) H2) :
    rRepA K (.ref a) (.int i) H Q := by
  rw [e]
  exact rep_any h h1 h2 q
theorem cutS_butlast {l : List Nat} (h : 1 ≤ l.length) : cutS (S l) none (some (-1)) = S (l.take (l.length - 1)) := by
  unfold cutS
  have e : HT.sIx (S l).length (S l).length (some (-1)) = l.length - 1 := by
    rw [SX.S_len]
    show (if (-1 : Int) < 0 then ((-1 : Int) + (l.length : Int)).toNat else min (-1 : Int).toNat l.length) = _
    rw [if_pos (by decide)]
    omega
  rw [e]
  show (⟨((l.drop 0).take (l.length - 1 - 0)).toArray⟩ : Str) = _
  rw [List.drop_zero, Nat.sub_zero]
theorem cutS_tail (l : List Nat) : cutS (S l) (some 1) none = S (l.drop 1) := by
  unfold cutS
  have e : HT.sIx (S l).length 0 (some 1) = min 1 l.length := by
    rw [SX.S_len]
    exact HT.sIx_nat l.length 0 1
  rw [e, HT.sIx_none, SX.S_len]
  cases l with
  | nil => rfl
  | cons c r =>
    have m : min 1 (c :: r).length = 1 := by
      rw [List.length_cons]
      omega
    rw [m]
    show (⟨(List.take ((c :: r).length - 1) r).toArray⟩ : Str) = _
    rw [List.length_cons, Nat.add_sub_cancel, List.take_length]
    rfl
/-! ### what stays through draws -/
theorem Dn.tup {d g c a : Addr} {H H' : Hp} {xs : List V} (s : Dn d g H H') (D : Dr H d g c) (h : H a = some (.tup xs)) : H' a = some (.tup xs) := by
  obtain ⟨⟨r, t, h1⟩, ⟨gs, h2, _⟩, _, _⟩ := D
  exact s _ _ h (ne_of h h1 (by intro z; cases z)) (ne_of h h2 (by intro z; cases z))
theorem tyB_dn {K : PySem.W.Frag} {d g c : Addr} {H H' : Hp} {x : V} {T : String} (s : Dn d g H H') (D : Dr H d g c) (D' : Dr H' d g c) (t : TyB K H x T) : TyB K H' x T := by
  obtain ⟨⟨r, tt, h1⟩, ⟨gs, h2, _⟩, _, _⟩ := D
  obtain ⟨⟨r', tt', h1'⟩, ⟨gs', h2', _⟩, _, _⟩ := D'
  cases t with
  | non => exact .non
  | bl b => exact .bl b
  | int i => exact .int i
  | str x => exact .str x
  | byt b => exact .byt b
  | @lst a xs h =>
    rcases h with (h | ⟨o, h⟩) | h
    · by_cases e : a = g
      · rw [e]
        exact .lst (SqL.of h2')
      · exact .lst (SqL.of (s _ _ h (ne_of h h1 (by intro z; cases z)) e))
    · exact .lst (.inl (.inr ⟨o, s _ _ h (ne_of h h1 (by intro z; cases z)) (ne_of h h2 (by intro z; cases z))⟩))
    · exact .lst (.inr h)
  | @tup a xs h =>
    rcases h with (h | ⟨o, h⟩) | h
    · exact .tup (SqT.of (s _ _ h (ne_of h h1 (by intro z; cases z)) (ne_of h h2 (by intro z; cases z))))
    · exact .tup (.inl (.inr ⟨o, s _ _ h (ne_of h h1 (by intro z; cases z)) (ne_of h h2 (by intro z; cases z))⟩))
    · exact .tup (.inr h)
  | @dK a kvs h =>
    by_cases e : a = d
    · rw [e]
      exact .dK h1'
    · exact .dK (s _ _ h e (ne_of h h2 (by intro z; cases z)))
theorem sqT_dn {K : PySem.W.Frag} {d g c a : Addr} {H H' : Hp} {xs : List V} (s : Dn d g H H') (D : Dr H d g c) (h : SqT K H a xs) : SqT K H' a xs := by
  obtain ⟨⟨r, tt, h1⟩, ⟨gs, h2, _⟩, _, _⟩ := D
  rcases h with (h | ⟨o, h⟩) | h
  · exact SqT.of (s _ _ h (ne_of h h1 (by intro z; cases z)) (ne_of h h2 (by intro z; cases z)))
  · exact .inl (.inr ⟨o, s _ _ h (ne_of h h1 (by intro z; cases z)) (ne_of h h2 (by intro z; cases z))⟩)
  · exact .inr h
theorem Kn.dn {K : PySem.W.Frag} {d g c : Addr} {H H' : Hp} {x : V} (h : Kn K H x) (s : Dn d g H H') (D : Dr H d g c) (D' : Dr H' d g c) : Kn K H' x := by
  obtain ⟨⟨T, t, ok⟩, z⟩ := h
  exact ⟨⟨T, tyB_dn s D D' t, ok⟩, z⟩
theorem Asked.dn {K : PySem.W.Frag} {d g c : Addr} {H H' : Hp} {x : V} {b : Bool} (h : Asked K H x b) (s : Dn d g H H') (D : Dr H d g c) (D' : Dr H' d g c) : Asked K H' x b := by
  rcases h with ⟨T, t, ok, ne, e⟩ | ⟨a, xs, e, h1, h2, e2⟩
  · exact .inl ⟨T, tyB_dn s D D' t, ok, ne, e⟩
  · exact .inr ⟨a, xs, e, sqT_dn s D h1, fun l y hy => (h2 l y hy).dn s D D', e2⟩
theorem tyB_same {K : PySem.W.Frag} {H H' : Hp} {x : V} {T : String} (t : TyB K H x T) (s : Same H H') : TyB K H' x T := by
  cases t with
  | non => exact .non
  | bl b => exact .bl b
  | int i => exact .int i
  | str x => exact .str x
  | byt b => exact .byt b
  | lst h => exact .lst (s.seq h)
  | tup h => exact .tup (sameT s h)
  | dK h => exact .dK (s _ _ h)
theorem asked_same {K : PySem.W.Frag} {H H' : Hp} {x : V} {b : Bool} (h : Asked K H x b) (s : Same H H') : Asked K H' x b := by
  rcases h with ⟨T, t, ok, ne, e⟩ | ⟨a, xs, e, h1, h2, e2⟩
  · exact .inl ⟨T, tyB_same t s, ok, ne, e⟩
  · exact .inr ⟨a, xs, e, sameT s h1, fun l y hy => (h2 l y hy).same s, e2⟩
def Bad0 (K : PySem.W.Frag) (H : Hp) (o : V) : Prop := Kn K H o ∧ rowOk o = false
def Bad1 (K : PySem.W.Frag) (H : Hp) (wide : Nat) (o : V) : Prop := Kn K H o ∧ (rowOk o = false ∨ lenV o ≠ (wide : Int))
theorem kn_str {K : PySem.W.Frag} {H : Hp} {z : Str} (h : z.length ≤ sizeLine) : Kn K H (.str z) := ⟨⟨"str", .str z, rfl⟩, fun y e => by cases e; exact h⟩
/-! ### _law_odd_picture -/
abbrev sOdd : Stmt := topS 40
theorem scOdd : FnScope ["draw", "picture", "r", "wide", "row", "rows", "some", "one"] ["draw", "picture"] (defScope sOdd) := ⟨rfl, rfl, rfl, by decide +kernel, rfl, by decide +kernel, by decide +kernel⟩
def spOdd (K : PySem.W.Frag) : Sp := fun vs H Q _ => ∃ (d g c a : Addr) (high wide : Nat) (rs : List (List Nat)), vs = [.ref d, .ref a] ∧ Dr H d g c ∧ PicR high wide rs ∧ H a = some (.tup (rs.map rv)) ∧
  ∀ x H', Asked K H' x false → Dr H' d g c → Dn d g H H' → Q x H'
section
variable {P : Program} {w : World} {K : PySem.W.Frag} {mg : Str → Option Value} {base : Heap}
theorem ok_odd {f fN : Addr} {fd fdN : FuncData} {k : Nat} (F : Fun K "_law_odd_picture" "_law_odd_picture" sOdd f fd) (T : Tx mg) (GN : FnOk P w K mg base CX0 (k + 1) fN fdN ["draw", "below"] spNext) (mN : mg "_law_next" = some (.ref fN)) (kN : PySem.W.keepIn K (.ref fN) = true) (bN : Binds K fdN ["draw", "below"] []) :
    FnOk P w K mg base CX0 (k + 2) f fd ["draw", "picture"] (spOdd K) := by
  refine F.ok scOdd (fun vs H Q E h => ?_) (fun cdv A outer s H vs Q E hr h => ?_)
  · obtain ⟨d, g, c, a, high, wide, rs, rfl, _⟩ := h
    rfl
  · obtain ⟨d, g, c, a, high, wide, rs, rfl, D, pr, ha, q⟩ := h
    have hu := hu_of hr
    have nd := scOdd.nd
    refine ⟨_, C8.pss_cut (ps_asg (pe_tup (pa_cons (pe_call GN hr (by rfl) mN kN bN .nil pass0 (pa_cons (pv 0) (pa_cons (pe_callB call_len_seq (by rfl) T.len PySem.boot_len (pa_cons (pv 1) pa_nil)) pa_nil))) (pa_cons (pe_callB call_len_str (by rfl) T.len PySem.boot_len (pa_cons (pe_ix (r := rIxT K) ix_tup (pv 1) pe_int (fun _ _ => rfl)) pa_nil)) pa_nil))) (pg_tup rfl (pgs_cons (pg_name (i := 2) nd rfl (.inr rfl)) (pgs_cons (pg_name (i := 3) nd rfl (.inl rfl)) pgs_nil)))) (
      C8.pss_cut (ps_set (i := 4) nd rfl (.inl rfl) (pe_ix (r := rIxT K) ix_tup (pv 1) (pv 2) (fun _ _ => rfl))) (
      C8.pss_cut (ps_set (i := 5) nd rfl (.inl rfl) (pe_lst (pa_cons (pe_slice sl_str (pv 4) po_none (po_some (pe_un un_neg pe_int))) (pa_cons (pe_op op_add_str (pv 4) pe_str) (pa_cons (pe_op op_add_str (pe_slice sl_str (pv 4) po_none (po_some (pe_un un_neg pe_int))) pe_str) (pa_cons (pe_op op_add_str (pe_slice sl_str (pv 4) po_none (po_some (pe_un un_neg pe_int))) pe_str) (pa_cons pe_str (pa_cons pe_non (pa_cons pe_int (pa_cons (pe_callTy (call_listS rfl) (by rfl) T.list (by decide +kernel) (pa_cons (pv 4) pa_nil)) (pa_cons (pe_op (r := rRepA K) op_repA (pe_tup (pa_cons pe_str pa_nil)) (pv 3)) (pa_cons (pe_op op_add_str (pe_slice sl_str (pv 4) (po_some pe_int) po_none) pe_str) pa_nil)))))))))))) (
      C8.pss_cut (ps_setLc (i := 6) (own := [("one", 7)]) (g := gName 7) (by rfl) nd rfl rfl (sw_true rfl rfl rfl (by decide +kernel)) (pi_list (pv 5)) (blkOk_by (N := ["draw", "picture", "r", "wide", "row", "rows", "some", "one"]) (sc := defScope sOdd) (by decide +kernel)) (fun _ _ _ _ _ => pg_name (i := 7) nd rfl (Or.inl rfl)) (fun _ _ _ _ _ => pts_nil) (fun _ _ _ _ _ => pe_op (r := rCatA K) op_catA (pe_op (r := rCatA K) op_catA (pe_slice (r := rSlA K) sl_tupA (pv 1) po_none (po_some (pv 2))) (pe_tup (pa_cons (pv 7) pa_nil))) (pe_slice (r := rSlA K) sl_tupA (pv 1) (po_some (pe_op op_add (pv 2) pe_int)) po_none))) (
      C8.pss_cut (ps_if (pt_cmpR op_eq (pe_callB call_len_seq (by rfl) T.len PySem.boot_len (pa_cons (pv 1) pa_nil)) pe_int (nomark _)) (pss_one (ps_set (i := 6) nd rfl (.inl rfl) (pe_slice sl_list (pv 6) (po_some pe_int) po_none))) pss_nil) (
      C8.pss_cut (ps_set (i := 6) nd rfl (.inl rfl) (pe_op op_cat (pv 6) (pe_lst (pa_cons (pe_tup pa_nil) (pa_cons pe_non (pa_cons pe_int (pa_cons pe_bl (pa_cons pe_str (pa_cons (pe_callTy call_list_of (by rfl) T.list (by decide +kernel) (pa_cons (pv 1) pa_nil)) (pa_cons pe_dnewK (pa_cons (pe_tup (pa_cons (pe_op op_mul_str pe_str pe_int) pa_nil)) (pa_cons (pe_op (r := rRepA K) op_repA (pe_tup (pa_cons pe_str pa_nil)) pe_int) (pa_cons (pe_tup (pa_cons pe_str pa_nil)) (pa_cons (pe_ix (r := rIxT K) ix_tup (pv 1) pe_int (fun _ _ => rfl)) (pa_cons (pe_lst (pa_cons pe_str pa_nil)) pa_nil))))))))))))))) (
      pss_one (ps_ret (pe_ix (r := rIxL K) ix_list (pv 6) (pe_call GN hr (by rfl) mN kN bN .nil pass0 (pa_cons (pv 0) (pa_cons (pe_callB call_len_seq (by rfl) T.len PySem.boot_len (pa_cons (pv 6) pa_nil)) pa_nil))) (fun _ _ => rfl))))))))), ?_⟩
    have hlen : (rs.map rv).length = high := by rw [List.length_map, pr.len]
    obtain ⟨l00, hl00⟩ : ∃ l, rs[0]? = some l := ⟨rs[0]'(by rw [pr.len]; exact pr.h0), List.getElem?_eq_getElem _⟩
    have at0 : atI (rs.map rv) 0 = some (rv l00) := atI_nat (j := 0) (by rw [List.getElem?_map, hl00]; rfl)
    have row0 := pr.row l00 (List.mem_of_getElem? hl00)
    have W1 := pr.w1
    have HH1 := pr.h1
    have small : ∀ {n : Nat}, n ≤ 300 → n ≤ sizeLine := fun h => Nat.le_of_lt (small1000 (by omega))
    have z0 : (S l00).length ≤ sizeLine := by
      rw [SX.S_len, row0.len]
      exact small (by omega)
    -- r, wide
    refine ⟨fun σ' H' => ∃ r : Nat, σ' = [some (.ref d), some (.ref a), some (.int r), some (.int wide), none, none, none, none] ∧ r < high ∧ Dr H' d g c ∧ Dn d g H H', ?_, ?_⟩
    · refine ⟨.ref d, rfl, .ref a, rfl, a, _, rfl, .inr (SqT.of ha), d, g, c, ((rs.map rv).length : Int), rfl, D, by rw [hlen]; have := pr.h0; omega, by rw [hlen]; omega, fun n H1 n0 n1 D1 dn1 => ?_⟩
      obtain ⟨j, rfl⟩ := Int.eq_ofNat_of_zero_le n0
      have ha1 := dn1.tup D ha
      refine ⟨.ref a, rfl, a, _, 0, rv l00, rfl, rfl, SqT.of ha1, at0, S l00, rfl, z0, by show 2 ≤ sizeLine; decide, fun t ht => ?_⟩
      have st := same_upd (o := .tup [V.int (j : Int), V.int ((S l00).length : Int)]) ht
      refine ⟨t, _, rfl, SqT.of upd_same, rfl, .int j, _, rfl, .int _, [], rfl, rfl, j, ?_, ?_, D1.same st, dn1.trans (Dn.same st)⟩
      · have e : V.int ((S l00).length : Int) = V.int (wide : Int) := by rw [SX.S_len, row0.len]
        rw [e]
        rfl
      · rw [hlen] at n1
        omega
    · rintro _ G1 ⟨r, rfl, hr1, D1, dn1⟩
      obtain ⟨l0, hl0⟩ : ∃ l, rs[r]? = some l := ⟨rs[r]'(by rw [pr.len]; exact hr1), List.getElem?_eq_getElem _⟩
      have rowr := pr.row l0 (List.mem_of_getElem? hl0)
      have atr : atI (rs.map rv) (r : Int) = some (rv l0) := atI_nat (by rw [List.getElem?_map, hl0]; rfl)
      have ha1 := dn1.tup D ha
      -- row
      refine ⟨fun σ' H' => σ' = [some (.ref d), some (.ref a), some (.int r), some (.int wide), some (rv l0), none, none, none] ∧ H' = G1, ?_, ?_⟩
      · exact ⟨.ref a, rfl, .int r, rfl, a, _, r, rv l0, rfl, rfl, SqT.of ha1, atr, rfl, rfl⟩
      · rintro _ G1 ⟨rfl, rfl⟩
        have zl : (S l0).length ≤ sizeLine := by
          rw [SX.S_len, rowr.len]
          exact small (by omega)
        have w0 := pr.w0
        -- rows
        refine ⟨fun σ' H' => ∃ (lr : Addr) (o0 o1 : V) (rest : List V), σ' = [some (.ref d), some (.ref a), some (.int r), some (.int wide), some (rv l0), some (.ref lr), none, none] ∧ Same G1 H' ∧ H' lr = some (.lst (o0 :: o1 :: rest)) ∧ Bad1 K H' wide o0 ∧ Bad1 K H' wide o1 ∧ rest.length = 8 ∧ ∀ o ∈ rest, Bad0 K H' o, ?_, ?_⟩
        · have cut1 : cutS (S l0) none (some (-1)) = S (l0.take (wide - 1)) := by
            rw [cutS_butlast (by rw [rowr.len]; exact w0), rowr.len]
          have cut2 : cutS (S l0) (some 1) none = S (l0.drop 1) := cutS_tail l0
          have zc1 : (cutS (S l0) none (some (-1))).length ≤ 120 := by
            rw [cut1, SX.S_len, List.length_take, rowr.len]
            omega
          have zc2 : (cutS (S l0) (some 1) none).length ≤ 120 := by
            rw [cut2, SX.S_len, List.length_drop, rowr.len]
            omega
          have zl0 : (S l0).length ≤ 120 := by
            rw [SX.S_len, rowr.len]
            omega
          have one1 : ∀ x : Str, x.length = 1 → ∀ y : Str, y.length ≤ 120 → y.length + x.length ≤ sizeLine := fun x hx y hy => small (by omega)
          refine ⟨rv l0, rfl, 1, rfl, -1, rfl, S l0, rfl, zl, rv l0, rfl, S l0, ".", rfl, rfl, one1 _ (by decide +kernel) _ zl0, rv l0, rfl, 1, rfl, -1, rfl, S l0, rfl, zl, _, "x", rfl, rfl, one1 _ (by decide +kernel) _ zc1,
            rv l0, rfl, 1, rfl, -1, rfl, S l0, rfl, zl, _, "\n", rfl, rfl, one1 _ (by decide +kernel) _ zc1, rv l0, rfl, S l0, rfl, zl, fun l8 hl8 => ⟨by show 1 ≤ sizeLine; decide, fun t9 ht9 => ⟨.int wide, rfl, rep_any upd_same w0 (by omega) fun z9 H9 s9 h9 => ?_⟩⟩⟩
          refine ⟨rv l0, rfl, 1, rfl, S l0, rfl, zl, _, " ", rfl, rfl, one1 _ (by decide +kernel) _ zc2, by show 10 ≤ sizeLine; decide, fun lr hlr => ?_⟩
          have s8 := same_upd (o := .lst ((S l0).cps.toList.map fun c => V.str ⟨#[c]⟩)) hl8
          have st9 := same_upd (o := .tup [V.str "#"]) ht9
          have slr := same_upd (o := .lst [V.str (cutS (S l0) none (some (-1))), V.str (S l0 ++ "."), V.str (cutS (S l0) none (some (-1)) ++ "x"), V.str (cutS (S l0) none (some (-1)) ++ "\n"), V.str "", V.non, V.int 5, V.ref l8, V.ref z9, V.str (cutS (S l0) (some 1) none ++ " ")]) hlr
          have sA : Same G1 _ := ((s8.trans st9).trans s9).trans slr
          refine ⟨lr, _, _, _, rfl, sA, upd_same, ?_, ?_, rfl, ?_⟩
          · refine ⟨kn_str (small (by omega)), ?_⟩
            rw [cut1]
            by_cases e : wide = 1
            · refine .inl (rowOk_len (.inl ?_))
              rw [List.length_take]
              omega
            · refine .inr ?_
              rw [lenV_S, List.length_take, rowr.len]
              omega
          · have e : (S l0 ++ "." : Str) = S (l0 ++ [46]) := by rw [s_dot, SX.S_cat]
            refine ⟨kn_str ?_, .inr ?_⟩
            · rw [e, SX.S_len, List.length_append, rowr.len]
              exact small (by show wide + 1 ≤ 300; omega)
            · rw [e, lenV_S, List.length_append, rowr.len]
              show ((wide + 1 : Nat) : Int) ≠ wide
              omega
          · have bad : ∀ (z : Str) (cs : List Nat) (m : Nat), z = S cs → cs.length ≤ 300 → m ∈ cs → m ≠ 35 → m ≠ 46 → Bad0 K (upd H9 lr (.lst [V.str (cutS (S l0) none (some (-1))), V.str (S l0 ++ "."), V.str (cutS (S l0) none (some (-1)) ++ "x"), V.str (cutS (S l0) none (some (-1)) ++ "\n"), V.str "", V.non, V.int 5, V.ref l8, V.ref z9, V.str (cutS (S l0) (some 1) none ++ " ")])) (.str z) := by
              rintro z cs m rfl hz hm h1 h2
              exact ⟨kn_str (by rw [SX.S_len]; exact small hz), rowOk_bad hm h1 h2⟩
            have sx : ("x" : Str) = S [120] := by decide +kernel
            have sn : ("\n" : Str) = S [10] := by decide +kernel
            have sb : (" " : Str) = S [32] := by decide +kernel
            have lt1 : (l0.take (wide - 1)).length ≤ 120 := by
              rw [List.length_take, rowr.len]
              omega
            have lt2 : (l0.drop 1).length ≤ 120 := by
              rw [List.length_drop, rowr.len]
              omega
            intro o ho
            simp only [List.mem_cons, List.not_mem_nil, or_false] at ho
            rcases ho with rfl | rfl | rfl | rfl | rfl | rfl | rfl | rfl
            · exact bad _ (l0.take (wide - 1) ++ [120]) 120 (by rw [cut1, sx, SX.S_cat]) (by rw [List.length_append]; show _ + 1 ≤ 300; omega) (by simp) (by decide) (by decide)
            · exact bad _ (l0.take (wide - 1) ++ [10]) 10 (by rw [cut1, sn, SX.S_cat]) (by rw [List.length_append]; show _ + 1 ≤ 300; omega) (by simp) (by decide) (by decide)
            · refine ⟨kn_str (small (by decide +kernel)), ?_⟩
              rw [s_empty]
              exact rowOk_len (.inl rfl)
            · exact ⟨⟨⟨"NoneType", .non, rfl⟩, fun z e => by cases e⟩, rfl⟩
            · exact ⟨⟨⟨"int", .int 5, rfl⟩, fun z e => by cases e⟩, rfl⟩
            · exact ⟨⟨⟨"list", .lst (SqL.of (slr _ _ (s9 _ _ (st9 _ _ (upd_same (H := G1) (a := l8)))))), rfl⟩, fun z e => by cases e⟩, rfl⟩
            · exact ⟨⟨⟨"tuple", .tup (SqT.of (slr _ _ h9)), rfl⟩, fun z e => by cases e⟩, rfl⟩
            · exact bad _ (l0.drop 1 ++ [32]) 32 (by rw [cut2, sb, SX.S_cat]) (by rw [List.length_append]; show _ + 1 ≤ 300; omega) (by simp) (by decide) (by decide)
        · rintro _ G3 ⟨lr, o0, o1, rest, rfl, sm3, hlr, b0, b1, hrest, brest⟩
          have D3 := D1.same sm3
          have dn3 := dn1.trans (Dn.same sm3)
          have ha3 := sm3 _ _ ha1
          -- some
          refine ⟨fun σ' H' => ∃ (ls : Addr) (ts : List V), σ' = [some (.ref d), some (.ref a), some (.int r), some (.int wide), some (rv l0), some (.ref lr), some (.ref ls), none] ∧ Same G3 H' ∧ G3 ls = none ∧ H' ls = some (.lst ts) ∧ ts.length = 10 ∧ ∀ (j : Nat) t, ts[j]? = some t → (2 ≤ high ∨ 2 ≤ j) → Asked K H' t false, ?_, ?_⟩
          · refine ⟨.ref lr, rfl, lr, rfl, ⟨_, SqL.of hlr⟩, fun Dd hDd => lc_list (K := K) (a := lr) (xs := o0 :: o1 :: rest) (fun i H2 => Same G3 H2 ∧ ∃ ts : List V, H2 Dd = some (.lst ts) ∧ ts.length = i ∧ ∀ (j : Nat) t, ts[j]? = some t → (2 ≤ high ∨ 2 ≤ j) → Asked K H2 t false)
              ⟨same_upd hDd, [], upd_same, rfl, fun j t e => by simp at e⟩ (fun i H2 _ z => SqL.of (z.1 _ _ hlr)) ?_ ?_⟩
            · rintro i x H2 hi ⟨sm, ts, hts, lts, ats⟩
              have hil : i < 10 := by
                rcases Nat.lt_or_ge i (o0 :: o1 :: rest).length with z | z
                · simp only [List.length_cons, hrest] at z
                  omega
                · rw [List.getElem?_eq_none z] at hi
                  cases hi
              have ha2 := sm _ _ ha3
              have szt : ((rs.map rv).take r).length = r := by
                rw [List.length_take, hlen]
                omega
              have szd : ((rs.map rv).drop (r + 1)).length ≤ 60 := by
                rw [List.length_drop, hlen]
                omega
              refine ⟨rfl, .ref a, rfl, .int r, rfl, r, rfl, sl_any ha2 fun z1 K1 s1 h1 => ⟨x, rfl, by show 1 ≤ sizeLine; decide, fun t ht => ?_⟩⟩
              rw [cutV_to] at h1
              have st := same_upd (o := .tup [x]) ht
              refine cat_any (st _ _ h1) upd_same ?_ fun z2 K2 s2 h2 => ⟨.ref a, rfl, .int r, rfl, r, 1, rfl, rfl, (r : Int) + 1, rfl, ?_⟩
              · rw [szt]
                exact small (by show r + 1 ≤ 300; omega)
              dsimp only [tNoPart]
              refine sl_any (s2 _ _ (st _ _ (s1 _ _ ha2))) fun z3 K3 s3 h3 => ?_
              have e1 : (r : Int) + 1 = ((r + 1 : Nat) : Int) := by omega
              rw [e1, cutV_from] at h3
              refine cat_any (s3 _ _ h2) h3 ?_ fun z4 K4 s4 h4 => ?_
              · rw [List.length_append, szt]
                exact small (by show r + 1 + _ ≤ 300; omega)
              have s14 : Same H2 K4 := (((s1.trans st).trans s2).trans s3).trans s4
              have hD4 := s14 _ _ hts
              have nDz : Dd ≠ z4 := ne_of hD4 h4 (by intro z; cases z)
              have sDd : ∀ o : HO, Same G3 (upd K4 Dd o) := fun o b u e => by
                rw [upd_ne (ne_of_none e hDd)]
                exact s14 _ _ (sm _ _ e)
              refine ⟨ts, hD4, by rw [lts]; exact small1000 (by omega), sDd _, ts ++ [.ref z4], upd_same, by rw [List.length_append, lts]; rfl, fun j t' e hj => ?_⟩
              have keepA : ∀ {y : V}, Asked K K4 y false → (∃ u, y ≠ .ref Dd ∨ y = u) → True := fun _ _ => trivial
              -- from K4 to the list's new state: the list at Dd is the only thing that changes
              have up : ∀ {y : V} {T : String}, TyB K K4 y T → TyB K (upd K4 Dd (.lst (ts ++ [.ref z4]))) y T := by
                intro y T t0
                cases t0 with
                | non => exact .non
                | bl b => exact .bl b
                | int i => exact .int i
                | str x => exact .str x
                | byt b => exact .byt b
                | @lst b xs h =>
                  by_cases eb : b = Dd
                  · rw [eb]
                    exact .lst (SqL.of upd_same)
                  · rcases h with (h | ⟨o, h⟩) | h
                    · exact .lst (SqL.of (by rw [upd_ne eb]; exact h))
                    · exact .lst (.inl (.inr ⟨o, by rw [upd_ne eb]; exact h⟩))
                    · exact .lst (.inr h)
                | @tup b xs h =>
                  rcases h with (h | ⟨o, h⟩) | h
                  · exact .tup (SqT.of (by rw [upd_ne (ne_of h hD4 (by intro z; cases z))]; exact h))
                  · exact .tup (.inl (.inr ⟨o, by rw [upd_ne (ne_of h hD4 (by intro z; cases z))]; exact h⟩))
                  · exact .tup (.inr h)
                | @dK b kvs h => exact .dK (by rw [upd_ne (ne_of h hD4 (by intro z; cases z))]; exact h)
              have upT : ∀ {b : Addr} {xs : List V}, SqT K K4 b xs → SqT K (upd K4 Dd (.lst (ts ++ [.ref z4]))) b xs := by
                intro b xs h
                rcases h with (h | ⟨o, h⟩) | h
                · exact SqT.of (by rw [upd_ne (ne_of h hD4 (by intro z; cases z))]; exact h)
                · exact .inl (.inr ⟨o, by rw [upd_ne (ne_of h hD4 (by intro z; cases z))]; exact h⟩)
                · exact .inr h
              have upK : ∀ {y : V}, Kn K K4 y → Kn K (upd K4 Dd (.lst (ts ++ [.ref z4]))) y := by
                rintro y ⟨⟨T, t0, ok⟩, z⟩
                exact ⟨⟨T, up t0, ok⟩, z⟩
              have upA : ∀ {y : V}, Asked K K4 y false → Asked K (upd K4 Dd (.lst (ts ++ [.ref z4]))) y false := by
                intro y h
                rcases h with ⟨T, t0, ok, ne, e⟩ | ⟨b, xs, e, h1, h2, e2⟩
                · exact .inl ⟨T, up t0, ok, ne, e⟩
                · exact .inr ⟨b, xs, e, upT h1, fun l y hy => upK (h2 l y hy), e2⟩
              by_cases hjl : j < ts.length
              · rw [List.getElem?_append_left hjl] at e
                exact upA (asked_same (ats j t' e hj) s14)
              · have ej : j = ts.length := by
                  rcases Nat.lt_or_ge j (ts ++ [V.ref z4]).length with z | z
                  · rw [List.length_append] at z
                    simp only [List.length_cons, List.length_nil] at z
                    omega
                  · rw [List.getElem?_eq_none z] at e
                    cases e
                subst ej
                rw [List.getElem?_append_right (Nat.le_refl _), Nat.sub_self] at e
                have et : t' = .ref z4 := (Option.some.inj e).symm
                subst et
                refine upA (.inr ⟨z4, _, rfl, SqT.of h4, fun _ y hy => ?_, ?_⟩)
                · have knx : Kn K H2 x := by
                    have hm := List.mem_of_getElem? hi
                    rcases List.mem_cons.mp hm with q1 | q1
                    · subst q1; exact b0.1.same sm
                    · rcases List.mem_cons.mp q1 with q2 | q2
                      · subst q2; exact b1.1.same sm
                      · exact (brest x q2).1.same sm
                  have knr : ∀ y ∈ rs.map rv, Kn K K4 y := fun y hy => by
                    obtain ⟨l, hl, rfl⟩ := List.mem_map.mp hy
                    exact kn_str (by rw [SX.S_len, (pr.row l hl).len]; exact small (by omega))
                  rcases List.mem_append.mp hy with q1 | q1
                  · rcases List.mem_append.mp q1 with q2 | q2
                    · exact knr y (List.mem_of_mem_take q2)
                    · rw [List.mem_singleton.mp q2]
                      exact knx.same s14
                  · exact knr y (List.mem_of_mem_drop q1)
                · refine (picOk_odd pr hr1 ?_).symm
                  have hm : i = 0 ∧ x = o0 ∨ i = 1 ∧ x = o1 ∨ x ∈ rest := by
                    match i, hi with
                    | 0, e => exact .inl ⟨rfl, (Option.some.inj e).symm⟩
                    | 1, e => exact .inr (.inl ⟨rfl, (Option.some.inj e).symm⟩)
                    | i + 2, e => exact .inr (.inr (List.mem_of_getElem? (i := i) e))
                  rcases hm with ⟨ei, q1⟩ | ⟨ei, q1⟩ | q1
                  · rw [q1]
                    rcases b0.2 with q2 | q2
                    · exact .inl q2
                    · exact .inr ⟨by omega, q2⟩
                  · rw [q1]
                    rcases b1.2 with q2 | q2
                    · exact .inl q2
                    · exact .inr ⟨by omega, q2⟩
                  · exact .inl (brest x q1).2
            · rintro H2 ⟨sm, ts, hts, lts, ats⟩
              refine ⟨Dd, ts, rfl, sm, hDd, hts, ?_, ats⟩
              rw [lts]
              simp only [List.length_cons, hrest]
          · rintro _ G4 ⟨ls, ts, rfl, sm4, nls, hls, lts, ats⟩
            have D4 := D3.same sm4
            have dn4 := dn3.trans (Dn.same sm4)
            have ha4 := sm4 _ _ ha3
            have nlsg : ls ≠ g := (D3.new nls).2
            have nlsd : ls ≠ d := (D3.new nls).1
            -- if len(picture) == 1
            refine ⟨fun σ' H' => ∃ (l2 : Addr) (us : List V), σ' = [some (.ref d), some (.ref a), some (.int r), some (.int wide), some (rv l0), some (.ref lr), some (.ref l2), none] ∧ Same G4 H' ∧ l2 ≠ g ∧ l2 ≠ d ∧ H' l2 = some (.lst us) ∧ us.length ≤ 10 ∧ ∀ t ∈ us, Asked K H' t false, ?_, ?_⟩
            · refine ⟨.ref a, rfl, a, _, rfl, .inr (SqT.of ha4), rfl, _, rfl, ite2 (fun e => ?_) (fun e => ?_)⟩
              · refine ⟨.ref ls, rfl, 2, rfl, ?_⟩
                dsimp only [tNoPart]
                refine ⟨ls, ts, rfl, SqL.of hls, fun p hp => ?_⟩
                have sp := same_upd (o := .lst (cutV ts (some 2) none)) hp
                have hdrop : cutV ts (some 2) none = ts.drop 2 := cutV_from ts 2
                refine ⟨p, ts.drop 2, rfl, sp, (D4.new hp).2, (D4.new hp).1, by rw [upd_same, hdrop], by rw [List.length_drop]; omega, fun t ht => ?_⟩
                obtain ⟨j, hj⟩ := List.getElem?_of_mem ht
                rw [List.getElem?_drop] at hj
                exact asked_same (ats (2 + j) t hj (.inr (by omega))) sp
              · have h2 : 2 ≤ high := by
                  have h0 := pr.h0
                  rcases Nat.lt_or_ge high 2 with z | z
                  · exfalso
                    apply e
                    have : high = 1 := by omega
                    exact decide_eq_true (by rw [hlen, this]; rfl)
                  · exact z
                refine ⟨ls, ts, rfl, Same.refl _, nlsg, nlsd, hls, by omega, fun t ht => ?_⟩
                obtain ⟨j, hj⟩ := List.getElem?_of_mem ht
                exact ats j t hj (.inl h2)
            · rintro _ G5 ⟨l2, us, rfl, sm5, n2g, n2d, hl2, lus, aus⟩
              have D5 := D4.same sm5
              have dn5 := dn4.trans (Dn.same sm5)
              have ha5 := sm5 _ _ ha4
              -- some = some + [..]
              refine ⟨fun σ' H' => ∃ (l3 : Addr) (vs : List V), σ' = [some (.ref d), some (.ref a), some (.int r), some (.int wide), some (rv l0), some (.ref lr), some (.ref l3), none] ∧ Same G5 H' ∧ G5 l3 = none ∧ H' l3 = some (.lst vs) ∧ 0 < vs.length ∧ vs.length ≤ 30 ∧ ∀ t ∈ vs, Asked K H' t false, ?_, ?_⟩
              · have mk120 : MulOk ("#" : Str) 121 := by
                  refine ⟨by decide, fun _ _ => by decide +kernel, fun _ _ => by decide +kernel⟩
                refine ⟨.ref l2, rfl, by show 0 ≤ sizeLine; decide, fun t0 ht0 => ⟨.ref a, rfl, a, _, rfl, .inr (SqT.of (same_upd ht0 _ _ ha5)), fun l1 hl1 => ?_⟩⟩
                have s0 := same_upd (o := .tup []) ht0
                have s1 := same_upd (o := .lst (rs.map rv)) hl1
                refine fun dd hdd => ⟨"#", 121, rfl, rfl, mk120, by show 1 ≤ sizeLine; decide, fun t2 ht2 => ⟨by show 1 ≤ sizeLine; decide, fun t3 ht3 => ?_⟩⟩
                have sd := same_upd (o := .dK []) hdd
                have s2 := same_upd (o := .tup [V.str (Txt.mul "#" 121)]) ht2
                have s3 := same_upd (o := .tup [V.str "#"]) ht3
                dsimp only [tC]
                refine rep_anyI (k := 61) (x := V.str "#") rfl upd_same (by decide) (by decide) fun z3 K3 sz3 hz3 => ?_
                refine ⟨by show 1 ≤ sizeLine; decide, fun t4 ht4 => ?_⟩
                have s4 := same_upd (o := .tup [V.str ""]) ht4
                have sX : Same G5 _ := ((((s0.trans s1).trans sd).trans s2).trans s3).trans (sz3.trans s4)
                refine ⟨.ref a, rfl, a, _, 0, rv l00, rfl, rfl, SqT.of (sX _ _ ha5), at0, by show 1 ≤ sizeLine; decide, fun l5 hl5 => ⟨by show 12 ≤ sizeLine; decide, fun l6 hl6 => ?_⟩⟩
                have s5 := same_upd (o := .lst [V.str ".#"]) hl5
                have s6 := same_upd (o := .lst [V.ref t0, V.non, V.int 5, V.bl true, V.str "#.", V.ref l1, V.ref dd, V.ref t2, V.ref z3, V.ref t4, rv l00, V.ref l5]) hl6
                have sY := (sX.trans s5).trans s6
                refine ⟨l2, l6, us, _, rfl, rfl, sY _ _ hl2, upd_same, ?_, fun p hp => ?_⟩
                · show us.length + 12 ≤ sizeLine
                  exact small (by omega)
                · have sp := same_upd (o := .lst (us ++ [V.ref t0, V.non, V.int 5, V.bl true, V.str "#.", V.ref l1, V.ref dd, V.ref t2, V.ref z3, V.ref t4, rv l00, V.ref l5])) hp
                  have sZ := sY.trans sp
                  refine ⟨p, _, rfl, sZ, sY.free hp, upd_same, ?_, ?_, fun t ht => ?_⟩
                  · rw [List.length_append]
                    show 0 < us.length + 12
                    omega
                  · rw [List.length_append]
                    show us.length + 12 ≤ 30
                    omega
                  · rcases List.mem_append.mp ht with q1 | q1
                    · exact asked_same (aus t q1) sZ
                    · have f0 := sp _ _ (s6 _ _ (s5 _ _ (s4 _ _ (sz3 _ _ (s3 _ _ (s2 _ _ (sd _ _ (s1 _ _ (upd_same (H := G5) (a := t0) (o := .tup []))))))))))
                      have f1 := sp _ _ (s6 _ _ (s5 _ _ (s4 _ _ (sz3 _ _ (s3 _ _ (s2 _ _ (sd _ _ (upd_at s1))))))))
                      have fd := sp _ _ (s6 _ _ (s5 _ _ (s4 _ _ (sz3 _ _ (s3 _ _ (s2 _ _ (upd_at sd)))))))
                      have f2 := sp _ _ (s6 _ _ (s5 _ _ (s4 _ _ (sz3 _ _ (s3 _ _ (upd_at s2))))))
                      have f3 := sp _ _ (s6 _ _ (s5 _ _ (s4 _ _ hz3)))
                      have f4 := sp _ _ (s6 _ _ (s5 _ _ (upd_at s4)))
                      have f5 := sp _ _ (s6 _ _ (upd_at s5))
                      simp only [List.mem_cons, List.not_mem_nil, or_false] at q1
                      rcases q1 with rfl | rfl | rfl | rfl | rfl | rfl | rfl | rfl | rfl | rfl | rfl | rfl
                      · exact .inr ⟨t0, [], rfl, SqT.of f0, (fun _ y hy => nomatch hy), rfl⟩
                      · exact .inl ⟨_, .non, rfl, by decide, rfl⟩
                      · exact .inl ⟨_, .int 5, rfl, by decide, rfl⟩
                      · exact .inl ⟨_, .bl true, rfl, by decide, rfl⟩
                      · exact .inl ⟨_, .str _, rfl, by decide, rfl⟩
                      · exact .inl ⟨_, .lst (SqL.of f1), rfl, by decide, rfl⟩
                      · exact .inl ⟨_, .dK fd, rfl, by decide, rfl⟩
                      · have em : Txt.mul "#" 121 = S (List.replicate 121 35) := by
                          rw [s_hash]
                          exact mul_sign 35 121 (by decide)
                        refine .inr ⟨t2, _, rfl, SqT.of f2, fun _ y hy => ?_, ?_⟩
                        · rw [List.mem_singleton.mp hy, em]
                          exact kn_str (by rw [SX.S_len, List.length_replicate]; exact small (by decide))
                        · unfold picOk
                          rw [em]
                          have z : [V.str (S (List.replicate 121 35))].all rowOk = false := by
                            show (rowOk (.str (S (List.replicate 121 35))) && true) = false
                            rw [rowOk_len (.inr (by rw [List.length_replicate]; decide))]
                            rfl
                          rw [z, Bool.and_false, Bool.false_and]
                      · refine .inr ⟨z3, _, rfl, SqT.of f3, fun le => ?_, ?_⟩
                        · rw [List.length_replicate] at le
                          exact absurd le (by decide)
                        · unfold picOk
                          rw [List.length_replicate, decide_eq_false (by decide : ¬ 61 ≤ 60), Bool.and_false, Bool.false_and, Bool.false_and]
                      · refine .inr ⟨t4, _, rfl, SqT.of f4, fun _ y hy => ?_, ?_⟩
                        · rw [List.mem_singleton.mp hy]
                          exact kn_str (small (by decide +kernel))
                        · unfold picOk
                          have z : [V.str ("" : Str)].all rowOk = false := by
                            show (rowOk (.str ("" : Str)) && true) = false
                            rw [s_empty, rowOk_len (.inl rfl)]
                            rfl
                          rw [z, Bool.and_false, Bool.false_and]
                      · exact .inl ⟨_, .str _, rfl, by decide, rfl⟩
                      · exact .inl ⟨_, .lst (SqL.of f5), rfl, by decide, rfl⟩
              · rintro _ G6 ⟨l3, vs, rfl, sm6, nl3, hl3, lv0, lv1, avs⟩
                have D6 := D5.same sm6
                have dn6 := dn5.trans (Dn.same sm6)
                obtain ⟨n3d, n3g⟩ := D5.new nl3
                refine ⟨.ref l3, rfl, .ref d, rfl, .ref l3, rfl, l3, vs, rfl, .inl (SqL.of hl3), d, g, c, (vs.length : Int), rfl, D6, by omega, by omega, fun n H7 n0 n1 D7 dn7 => ?_⟩
                obtain ⟨j, rfl⟩ := Int.eq_ofNat_of_zero_le n0
                have hj : j < vs.length := by omega
                have hx : vs[j]? = some vs[j] := List.getElem?_eq_getElem hj
                exact ⟨l3, vs, (j : Int), vs[j], rfl, rfl, SqL.of (dn7 _ _ hl3 n3d n3g), atI_nat hx, q _ H7 ((avs _ (List.getElem_mem hj)).dn dn7 D6 D7) D7 (dn6.trans dn7)⟩
end
end Dt
namespace Dt
open PySem PySem.Spec PyProof.Rows L2 L2X
open SX (S)
theorem pss_never {X : Cx} {st : List Stmt} : PSs X st (fun _ _ _ => False) := ⟨fun _ _ _ _ _ _ h => h.elim⟩
theorem pg_never {X : Cx} {tg : Expr} : PG X tg (fun _ _ _ _ => False) := ⟨fun _ _ _ _ _ _ _ _ _ h => h.elim⟩
abbrev sSize : Stmt := topS 25
theorem scSize : FnScope ["picture"] ["picture"] (defScope sSize) := ⟨rfl, rfl, rfl, by decide +kernel, rfl, by decide +kernel, by decide +kernel⟩
/-- size of a picture, or of what is none -/
def spSize (K : PySem.W.Frag) (C : Addr) : Sp := fun vs H Q E => ∃ x, vs = [x] ∧ ((Asked K H x false ∧ ∀ H', Same H H' → E (.ref C) none H') ∨
  ∃ a xs, x = .ref a ∧ SqT K H a xs ∧ (∀ y ∈ xs, Kn K H y) ∧ picOk xs = true ∧ ∀ p H', Same H H' → H p = none → H' p = some (.tup [.int (xs.length : Int), .int (lenV (xs.headD .non))]) → Q (.ref p) H')
theorem Asked.same {K : PySem.W.Frag} {H H' : Hp} {x : V} {b : Bool} (h : Asked K H x b) (s : Same H H') : Asked K H' x b := by
  rcases h with ⟨T, t, ok, ne, e⟩ | ⟨a, xs, e, h1, h2, e2⟩
  · refine .inl ⟨T, ?_, ok, ne, e⟩
    cases t with
    | non => exact .non
    | bl b => exact .bl b
    | int i => exact .int i
    | str x => exact .str x
    | byt b => exact .byt b
    | lst h => exact .lst (s.seq h)
    | tup h => exact .tup (sameT s h)
    | dK h => exact .dK (s _ _ h)
  · exact .inr ⟨a, xs, e, sameT s h1, fun l y hy => (h2 l y hy).same s, e2⟩
section
variable {P : Program} {w : World} {K : PySem.W.Frag} {mg : Str → Option Value} {base : Heap} {C : Addr}
/-- want_picture, and whoever calls it first -/
structure GW (P : Program) (w : World) (K : PySem.W.Frag) (mg : Str → Option Value) (base : Heap) (C : Addr) (k : Nat) : Prop where
  ex : ∃ f fd, FnOk P w K mg base (L2.CX P w) k f fd ["thing"] (spWant K C) ∧ mg "want_picture" = some (.ref f) ∧ PySem.W.keepIn K (.ref f) = true ∧ Binds K fd ["thing"] []
structure GS (P : Program) (w : World) (K : PySem.W.Frag) (mg : Str → Option Value) (base : Heap) (C : Addr) (k : Nat) : Prop where
  ex : ∃ f fd, FnOk P w K mg base (L2.CX P w) k f fd ["picture"] (spSize K C) ∧ mg "size" = some (.ref f) ∧ PySem.W.keepIn K (.ref f) = true ∧ Binds K fd ["picture"] []
theorem ok_size {f : Addr} {fd : FuncData} {k : Nat} (F : Fun K "size" "size" sSize f fd) (X : Tx mg) (G : GW P w K mg base C (k + 1)) : FnOk P w K mg base (L2.CX P w) (k + 2) f fd ["picture"] (spSize K C) := by
  obtain ⟨fW, fdW, GW, mW, kW, bW⟩ := G.ex
  refine F.okX scSize (fun vs H Q E h => ?_) (fun cdv A outer s H vs Q E hr h => ?_)
  · obtain ⟨x, rfl, _⟩ := h
    rfl
  · obtain ⟨x, rfl, h⟩ := h
    refine ⟨_, pss_cons (ps_expr (pe_callS GW hr (by rfl) mW kW bW (fun σ => passAt (takes_of rfl rfl rfl rfl) σ) (pa_cons (pv 0) pa_nil)))
      (pss_one (ps_ret (pe_tup (pa_cons (pe_callB call_len_seq (by rfl) X.len PySem.boot_len (pa_cons (pv 0) pa_nil)) (pa_cons (pe_callB call_len_str (by rfl) X.len PySem.boot_len (pa_cons (pe_ix (r := rIxT K) ix_tup (pv 0) pe_int (fun _ _ => rfl)) pa_nil)) pa_nil))))), ?_⟩
    rcases h with ⟨ask, q⟩ | ⟨a, xs, rfl, hx, kn, ok, q⟩
    · exact ⟨x, rfl, x, false, rfl, ask, (fun e => nomatch e), fun _ H' sm => q H' sm⟩
    · refine ⟨.ref a, rfl, .ref a, true, rfl, .inr ⟨a, xs, rfl, hx, fun _ => kn, ok.symm⟩, fun _ H' sm => ?_, fun e => nomatch e⟩
      have hx' := sameT sm hx
      unfold picOk at ok
      rw [Bool.and_eq_true, Bool.and_eq_true, Bool.and_eq_true] at ok
      obtain ⟨⟨⟨o1, o2⟩, o3⟩, o4⟩ := ok
      cases xs with
      | nil => exact absurd (of_decide_eq_true o1) (by decide)
      | cons x0 r =>
        have hk := List.all_eq_true.mp o3 x0 List.mem_cons_self
        cases x0 with
        | str z =>
          have hz := (kn _ List.mem_cons_self).2 z rfl
          refine ⟨.ref a, rfl, a, _, rfl, .inr hx', .ref a, rfl, a, _, 0, .str z, rfl, rfl, hx', atI_nat (j := 0) rfl, z, rfl, hz, by show 2 ≤ sizeLine; decide, fun p hp => ?_⟩
          exact q p _ (sm.trans (same_upd hp)) (sm.free hp) upd_same
        | _ => cases hk
end
theorem upd_at2 {H : Hp} {p : Addr} {o : HO} : (upd H p o) p = some o := upd_same
theorem kn_str2 {K : PySem.W.Frag} {H : Hp} {z : Str} (h : z.length ≤ sizeLine) : Kn K H (.str z) := ⟨⟨"str", .str z, rfl⟩, fun y e => by cases e; exact h⟩
theorem kn_rows {K : PySem.W.Frag} {H : Hp} {high wide : Nat} {rs : List (List Nat)} (h : PicR high wide rs) : ∀ y ∈ rs.map rv, Kn K H y := by
  intro y hy
  obtain ⟨x, hx, rfl⟩ := List.mem_map.mp hy
  refine kn_str2 ?_
  show x.length ≤ sizeLine
  have := (h.row x hx).len
  have := h.w1
  exact Nat.le_of_lt (small1000 (by omega))
theorem askPic {K : PySem.W.Frag} {H : Hp} {high wide : Nat} {rs : List (List Nat)} {a : Addr} (h : PicR high wide rs) (e : H a = some (.tup (rs.map rv))) : Asked K H (.ref a) true :=
  .inr ⟨a, _, rfl, SqT.of e, fun _ => kn_rows h, (picOk_pic h).symm⟩
theorem picSize {high wide : Nat} {rs : List (List Nat)} (h : PicR high wide rs) : (((rs.map rv).length : Nat) : Int) = (high : Int) ∧ lenV ((rs.map rv).headD .non) = (wide : Int) := by
  refine ⟨by rw [List.length_map, h.len], ?_⟩
  cases rs with
  | nil =>
    have h1 := h.len
    have h2 := h.h0
    simp at h1
    omega
  | cons l r =>
    have e := (h.row l List.mem_cons_self).len
    show lenV (rv l) = _
    unfold rv
    rw [lenV_S, e]
end Dt
namespace L2X
open PySem PySem.Spec PyProof.Rows L2
/-- repr(a), a data, where no repr runs around -/
theorem call_reprD {X : Cx} (hgd : X.A.guards = some []) (hu : X.A.units + 64 < cLine) : CallR X (.builtin "repr") (fun xs H Q => ∃ a d, xs = [.ref a] ∧ Dp X.K H (.ref a) d ∧ d.showable = true ∧ d.hasDict = false ∧ d.depth ≤ 60 ∧ d.shown.length ≤ sizeLine ∧ Q (.str d.shown) H) := by
  intro pins s σ H xs us Q I r h
  obtain ⟨a, d, rfl, dp, hs, hd, hdp, hz, q⟩ := h
  obtain ⟨u, rfl, rx⟩ := vals1 r
  obtain ⟨as, rd⟩ := Dp.reads I d (.ref a) u dp rx
  cases rx
  exact repr_of_reads' rd hs (fun z => by rw [hd] at z; cases z) hgd (by omega) (fun b o e => e) (fun h' t tk keep => ⟨.str d.shown, H, I.kept (t' := tk) keep, ⟨_, rfl⟩, q⟩) hz
end L2X
namespace Dt
open PySem PySem.Spec PyProof.Rows L2 L2X LamX
/-! ### kinds stay -/
structure Kd (H H' : Hp) : Prop where
  tup : ∀ b xs, H b = some (.tup xs) → H' b = some (.tup xs)
  frz : ∀ b o u, H b = some (.frz o u) → H' b = some (.frz o u)
  lst : ∀ b xs, H b = some (.lst xs) → ∃ ys, H' b = some (.lst ys)
  dct : ∀ b ks, H b = some (.dK ks) → ∃ ls, H' b = some (.dK ls)
theorem Kd.refl {H : Hp} : Kd H H := ⟨fun _ _ e => e, fun _ _ _ e => e, fun _ xs e => ⟨xs, e⟩, fun _ ks e => ⟨ks, e⟩⟩
theorem Kd.trans {H H1 H2 : Hp} (a : Kd H H1) (b : Kd H1 H2) : Kd H H2 where
  tup := fun x xs e => b.tup _ _ (a.tup _ _ e)
  frz := fun x o u e => b.frz _ _ _ (a.frz _ _ _ e)
  lst := fun x xs e => by
    obtain ⟨ys, z⟩ := a.lst _ _ e
    exact b.lst _ _ z
  dct := fun x ks e => by
    obtain ⟨ys, z⟩ := a.dct _ _ e
    exact b.dct _ _ z
theorem Kd.same {H H' : Hp} (s : Same H H') : Kd H H' := ⟨fun _ _ e => s _ _ e, fun _ _ _ e => s _ _ e, fun _ xs e => ⟨xs, s _ _ e⟩, fun _ ks e => ⟨ks, s _ _ e⟩⟩
theorem Kd.ext {H H' : Hp} (s : ExtN H H') : Kd H H' := ⟨fun _ _ e => s _ _ e (fun _ z => nomatch z), fun _ _ _ e => s _ _ e (fun _ z => nomatch z), fun _ xs e => ⟨xs, s _ _ e (fun _ z => nomatch z)⟩, fun _ ks e => ⟨ks, s _ _ e (fun _ z => nomatch z)⟩⟩
theorem Kd.list {H : Hp} {l : Addr} {xs ys : List V} (h : H l = some (.lst xs)) : Kd H (upd H l (.lst ys)) where
  tup := fun b zs e => by rw [upd_ne (ne_of e h (by intro z; cases z))]; exact e
  frz := fun b o u e => by rw [upd_ne (ne_of e h (by intro z; cases z))]; exact e
  lst := fun b zs e => by
    by_cases hb : b = l
    · rw [hb]
      exact ⟨ys, upd_same⟩
    · exact ⟨zs, by rw [upd_ne hb]; exact e⟩
  dct := fun b ks e => ⟨ks, by rw [upd_ne (ne_of e h (by intro z; cases z))]; exact e⟩
theorem Kd.del {H : Hp} {f : Addr} {φ : Heap → Prop} (h : H f = some (.ext φ)) : Kd H (delH H f) where
  tup := fun b zs e => by rw [delH_ne (ne_of e h (by intro z; cases z))]; exact e
  frz := fun b o u e => by rw [delH_ne (ne_of e h (by intro z; cases z))]; exact e
  lst := fun b zs e => ⟨zs, by rw [delH_ne (ne_of e h (by intro z; cases z))]; exact e⟩
  dct := fun b ks e => ⟨ks, by rw [delH_ne (ne_of e h (by intro z; cases z))]; exact e⟩
theorem Kd.sqT {K : PySem.W.Frag} {H H' : Hp} {a : Addr} {xs : List V} (k : Kd H H') (h : SqT K H a xs) : SqT K H' a xs := by
  rcases h with (h | ⟨o, h⟩) | h
  · exact SqT.of (k.tup _ _ h)
  · exact .inl (.inr ⟨o, k.frz _ _ _ h⟩)
  · exact .inr h
theorem Kd.ty {K : PySem.W.Frag} {H H' : Hp} {x : V} {T : String} (k : Kd H H') (t : TyB K H x T) : TyB K H' x T := by
  cases t with
  | non => exact .non
  | bl b => exact .bl b
  | int i => exact .int i
  | str x => exact .str x
  | byt b => exact .byt b
  | lst h =>
    rcases h with (h | ⟨o, h⟩) | h
    · obtain ⟨ys, z⟩ := k.lst _ _ h
      exact .lst (SqL.of z)
    · exact .lst (.inl (.inr ⟨o, k.frz _ _ _ h⟩))
    · exact .lst (.inr h)
  | tup h => exact .tup (k.sqT h)
  | dK h =>
    obtain ⟨ls, z⟩ := k.dct _ _ h
    exact .dK z
theorem Kd.kn {K : PySem.W.Frag} {H H' : Hp} {x : V} (k : Kd H H') (h : Kn K H x) : Kn K H' x := by
  obtain ⟨⟨T, t, ok⟩, z⟩ := h
  exact ⟨⟨T, k.ty t, ok⟩, z⟩
theorem Kd.asked {K : PySem.W.Frag} {H H' : Hp} {x : V} {b : Bool} (k : Kd H H') (h : Asked K H x b) : Asked K H' x b := by
  rcases h with ⟨T, t, ok, ne, e⟩ | ⟨a, xs, e, h1, h2, e2⟩
  · exact .inl ⟨T, k.ty t, ok, ne, e⟩
  · exact .inr ⟨a, xs, e, k.sqT h1, fun l y hy => k.kn (h2 l y hy), e2⟩
theorem Dr.ext {H H' : Hp} {d g c : Addr} (D : Dr H d g c) (s : ExtN H H') : Dr H' d g c := by
  obtain ⟨⟨r, t, h1⟩, ⟨gs, h2, h3⟩, ⟨cs, h4, h5⟩, h6⟩ := D
  exact ⟨⟨r, t, s _ _ h1 (fun _ z => nomatch z)⟩, ⟨gs, s _ _ h2 (fun _ z => nomatch z), h3⟩, ⟨cs, s _ _ h4 (fun _ z => nomatch z), h5⟩, h6⟩
theorem Dr.del {H : Hp} {d g c f : Addr} {φ : Heap → Prop} (D : Dr H d g c) (h : H f = some (.ext φ)) : Dr (delH H f) d g c := by
  obtain ⟨⟨r, t, h1⟩, ⟨gs, h2, h3⟩, ⟨cs, h4, h5⟩, h6⟩ := D
  exact ⟨⟨r, t, by rw [delH_ne (ne_of h1 h (by intro z; cases z))]; exact h1⟩, ⟨gs, by rw [delH_ne (ne_of h2 h (by intro z; cases z))]; exact h2, h3⟩, ⟨cs, by rw [delH_ne (ne_of h4 h (by intro z; cases z))]; exact h4, h5⟩, h6⟩
theorem Dr.updl {H : Hp} {d g c l : Addr} {xs : List V} (D : Dr H d g c) (n1 : l ≠ d) (n2 : l ≠ g) (n3 : l ≠ c) : Dr (upd H l (.lst xs)) d g c := by
  obtain ⟨⟨r, t, h1⟩, ⟨gs, h2, h3⟩, ⟨cs, h4, h5⟩, h6⟩ := D
  exact ⟨⟨r, t, by rw [upd_ne n1.symm]; exact h1⟩, ⟨gs, by rw [upd_ne n2.symm]; exact h2, h3⟩, ⟨cs, by rw [upd_ne n3.symm]; exact h4, h5⟩, h6⟩
theorem Dr.newc {d g c p : Addr} {H : Hp} (D : Dr H d g c) (hn : H p = none) : p ≠ d ∧ p ≠ g ∧ p ≠ c := by
  obtain ⟨h1, h2⟩ := D.new hn
  obtain ⟨_, _, ⟨cs, h4, _⟩, _⟩ := D
  exact ⟨h1, h2, fun z => by rw [z, h4] at hn; cases hn⟩
theorem Dn.tabs {d g c : Addr} {H H' : Hp} {T : List (Addr × Str)} (s : Dn d g H H') (D : Dr H d g c) (h : Tabs T H) : Tabs T H' := by
  obtain ⟨⟨r, t, h1⟩, ⟨gs, h2, _⟩, _, _⟩ := D
  intro p hp
  obtain ⟨ps, e1, e2, e3⟩ := h p hp
  refine ⟨ps, s _ _ e1 (ne_of e1 h1 (by intro z; cases z)) (ne_of e1 h2 (by intro z; cases z)), e2, fun pos cv hc => ?_⟩
  obtain ⟨c0, e4, e5⟩ := e3 pos cv hc
  exact ⟨c0, e4, s _ _ e5 (ne_of e5 h1 (by intro z; unfold CodeO at z; cases z)) (ne_of e5 h2 (by intro z; unfold CodeO at z; cases z))⟩
end Dt
/-! zip of two and enumerate, over any of a list, a tuple, a text -/
namespace L2X
open PySem PySem.Spec PyProof.Rows L2
inductive Src
  | lst (a : Addr)
  | tup (a : Addr)
  | txt (z : Str)
def chars (z : Str) : List V := z.cps.toList.map fun c => V.str ⟨#[c]⟩
/-- what stands in it -/
def Src.has (K : PySem.W.Frag) (H : Hp) : Src → List V → Prop
  | .lst a, xs => SqL K H a xs
  | .tup a, xs => SqT K H a xs
  | .txt z, xs => xs = chars z
def Src.val : Src → V
  | .lst a => .ref a
  | .tup a => .ref a
  | .txt z => .str z
/-- its iterator at its i-th item -/
def Src.it (it : Addr) (i : Nat) (h : Heap) : Src → Prop
  | .lst a => h.IsListIter it a i
  | .tup a => h.IsTupleIter it a i
  | .txt z => ∃ t, h.IsStrIter it (strIterType z) z t i
def Src.off (c : Addr) : Src → Prop
  | .lst a => a ≠ c
  | .tup a => a ≠ c
  | .txt _ => True
theorem Src.it_obj {S : Src} {it : Addr} {i : Nat} {h : Heap} (e : S.it it i h) : ∃ o, h.get? it = some o ∧ ∀ v, o.data ≠ .cell v := by
  cases S with
  | lst a =>
    obtain ⟨o, e1, _, d⟩ := e
    exact ⟨o, e1, fun v q => by rw [d] at q; cases q⟩
  | tup a =>
    obtain ⟨o, e1, _, d⟩ := e
    exact ⟨o, e1, fun v q => by rw [d] at q; cases q⟩
  | txt z =>
    obtain ⟨t, o, e1, _, d⟩ := e
    exact ⟨o, e1, fun v q => by rw [d] at q; cases q⟩
theorem Src.it_at {S : Src} {it : Addr} {i : Nat} {h h' : Heap} (e : S.it it i h) (k : ∀ o, h.get? it = some o → h'.get? it = some o) : S.it it i h' := by
  cases S with
  | lst a => exact Heap.IsListIter.at e k
  | tup a => exact Heap.IsTupleIter.at e k
  | txt z =>
    obtain ⟨t, o, e1, e2, d⟩ := e
    exact ⟨t, o, k _ e1, e2, d⟩
section
variable {X : Cx} {pins : List (Addr × Obj)} {σ : L2.St} {H : Hp} {s : Shared}
theorem Src.inj {S : Src} {xs ys : List V} (I : Inv X pins σ H s) (h : S.has X.K H xs) (h' : S.has X.K H ys) : xs = ys := by
  cases S with
  | lst a => exact I.list_inj h h'
  | tup a => exact I.tuple_inj h h'
  | txt z => exact Eq.trans h (Eq.symm h')
/-- what its iterator draws, now -/
theorem Src.draws {S : Src} {xs : List V} {it : Addr} {i : Nat} {A : Around} (I : Inv X pins σ H s) (hh : A.handled = none) (h : S.has X.K H xs) (st : S.it it i s.heap) (off : S.off it) :
    ∃ (fp : List Addr) (P : Nat → Value → Prop) (St : Nat → Heap → Prop), Draws X.prog X.w A it fp xs.length P St ∧ St i s.heap ∧ it ∈ fp ∧ (∀ c, c ≠ it → S.off c → c ∉ fp) ∧ (∀ j v, P j v → ∃ x, xs[j]? = some x ∧ RelV x v) ∧ (∀ j h, St j h → S.it it j h) := by
  cases S with
  | lst a =>
    obtain ⟨its, rv, p, _⟩ := I.list h
    have el : its.toArray.size = xs.length := by rw [rv.length]; simp
    rw [← el]
    refine ⟨[it, a], _, _, Draws.list hh it a off its.toArray, ⟨st, p.isList⟩, by simp, fun c hc ho hm => ?_, fun j v hv => ?_, fun j h e => e.1⟩
    · have e' : c = it ∨ c = a := by simpa using hm
      rcases e' with e' | e'
      · exact hc e'
      · exact ho e'.symm
    · have hv' : its[j]? = some v := by simpa using hv
      have hj : j < xs.length := by
        rw [← el]
        have := (List.getElem?_eq_some_iff.mp hv').1
        simpa using this
      obtain ⟨u, hu, ru⟩ := rv.get (List.getElem?_eq_getElem hj)
      rw [hv'] at hu
      cases hu
      exact ⟨_, List.getElem?_eq_getElem hj, ru⟩
  | tup a =>
    obtain ⟨its, rv, p, _⟩ := I.tuple h
    have el : its.toArray.size = xs.length := by rw [rv.length]; simp
    rw [← el]
    refine ⟨[it, a], _, _, Draws.tuple hh it a off its.toArray, ⟨st, p⟩, by simp, fun c hc ho hm => ?_, fun j v hv => ?_, fun j h e => e.1⟩
    · have e' : c = it ∨ c = a := by simpa using hm
      rcases e' with e' | e'
      · exact hc e'
      · exact ho e'.symm
    · have hv' : its[j]? = some v := by simpa using hv
      have hj : j < xs.length := by
        rw [← el]
        have := (List.getElem?_eq_some_iff.mp hv').1
        simpa using this
      obtain ⟨u, hu, ru⟩ := rv.get (List.getElem?_eq_getElem hj)
      rw [hv'] at hu
      cases hu
      exact ⟨_, List.getElem?_eq_getElem hj, ru⟩
  | txt z =>
    obtain ⟨t, st⟩ := st
    have hx : xs = chars z := h
    have el : z.cps.size = xs.length := by rw [hx]; simp [chars]
    rw [← el]
    refine ⟨[it], _, _, Draws.text hh it z t, st, by simp, fun c hc _ hm => hc (by simpa using hm), fun j v hv => ?_, fun j h e => ⟨t, e⟩⟩
    obtain ⟨c, u, e1, rfl⟩ := hv
    refine ⟨.str ⟨#[c]⟩, ?_, _, rfl⟩
    rw [hx]
    unfold chars
    rw [List.getElem?_map, Array.getElem?_toList, e1]
    rfl
/-- two things at each turn, in new pairs -/
def ItzG (K : PySem.W.Frag) (A B : Src) : It :=
  ⟨fun i H => ∃ (xs ys : List V) (x y : V), A.has K H xs ∧ B.has K H ys ∧ xs[i]? = some x ∧ ys[i]? = some y,
    fun i H v H' => ∃ T x y, v = .ref T ∧ H T = none ∧ H' = upd H T (.tup [x, y]) ∧ (∀ xs, A.has K H xs → xs[i]? = some x) ∧ ∀ ys, B.has K H ys → ys[i]? = some y,
    fun i H => ∃ xs ys : List V, A.has K H xs ∧ B.has K H ys ∧ (xs.length = i ∧ i ≤ ys.length ∨ ys.length = i ∧ i ≤ xs.length)⟩
structure Apart5 (A B : Src) (z TI TO i1 i2 : Addr) : Prop where
  TIz : TI ≠ z
  TOz : TO ≠ z
  i1z : i1 ≠ z
  i2z : i2 ≠ z
  TITO : TI ≠ TO
  TIi1 : TI ≠ i1
  TIi2 : TI ≠ i2
  TOi1 : TO ≠ i1
  TOi2 : TO ≠ i2
  i12 : i1 ≠ i2
  az : A.off z
  aT : A.off TO
  a1 : A.off i1
  a2 : A.off i2
  bz : B.off z
  bT : B.off TO
  b1 : B.off i1
  b2 : B.off i2
theorem turn_zipG {P : Program} {w : World} {K : PySem.W.Frag} {elts : List Expr} {kk : Nat} {tpos : Pos} {A B : Src} {z TI TO i1 i2 : Addr} (D : Apart5 A B z TI TO i1 i2) :
    Turn P w K (.Tuple elts kk tpos) (ItzG K A B) [z, TI, TO, i1, i2] z (fun i h => IsZip h z TI TO .none ∧ IsTupOf2 h TI (.ref i1) (.ref i2) ∧ (∃ x y, IsTupOf2 h TO x y) ∧ A.it i1 i h ∧ B.it i2 i h) where
  mem := by simp
  obj := fun i h st c hc => by
    obtain ⟨hz, hTI, ⟨x, y, hTO⟩, h1, h2⟩ := st
    have e' : c = z ∨ c = TI ∨ c = TO ∨ c = i1 ∨ c = i2 := by simpa using hc
    rcases e' with q | q | q | q | q
    · rw [q]; exact ⟨_, hz, fun v q => nomatch q⟩
    · rw [q]; exact ⟨_, hTI, fun v q => nomatch q⟩
    · rw [q]; exact ⟨_, hTO, fun v q => nomatch q⟩
    · rw [q]; exact Src.it_obj h1
    · rw [q]; exact Src.it_obj h2
  keep := fun i h h' st k => by
    obtain ⟨hz, hTI, ⟨x, y, hTO⟩, h1, h2⟩ := st
    exact ⟨k z (by simp) _ hz, k TI (by simp) _ hTI, ⟨x, y, k TO (by simp) _ hTO⟩, Src.it_at h1 fun o q => k i1 (by simp) o q, Src.it_at h2 fun o q => k i2 (by simp) o q⟩
  item := by
    intro X hP hw hK hc i pins s σ H E I hf st hg
    subst hP hw hK
    obtain ⟨hz, hTI, ⟨x0, y0, hTO⟩, h1, h2⟩ := st
    obtain ⟨xs, ys, x, y, hqx, hqy, hx, hy⟩ := hg
    obtain ⟨f1, P1, S1, D1, s1, m1, o1, p1, t1⟩ := Src.draws (A := X.A.in1) I (I.ok.hd hc) hqx h1 D.a1
    obtain ⟨f2, P2, S2, D2, s2, m2, o2, p2, t2⟩ := Src.draws (A := X.A.in1) I (I.ok.hd hc) hqy h2 D.b2
    have sep : ZipSep2 z TI TO i1 i2 f1 f2 := ⟨D.TIz, D.TOz, D.TITO, D.TIi1, m1, o1 _ D.i1z.symm D.az, o1 _ D.TOi1 D.aT, D.TIi2, m2, o2 _ D.i2z.symm D.bz, o2 _ D.TOi2 D.bT, o2 _ D.i12 D.b1, o1 _ D.i12.symm D.a2⟩
    have hzl : z < s.heap.objs.size := Heap.lt_size hz
    refine wpAny_pyNext_zipD2_item sep D1 D2 hz hTI hTO s1 s2 (List.getElem?_eq_some_iff.mp hx).1 (List.getElem?_eq_some_iff.mp hy).1 fun u u2 h' tk q1 q2 z' TO' h1' h2' hT hsz hk => ?_
    obtain ⟨x', ex, ru⟩ := p1 _ _ q1
    rw [hx] at ex
    cases ex
    obtain ⟨y', ey, ru2⟩ := p2 _ _ q2
    rw [hy] at ey
    cases ey
    refine ⟨_, rfl, wpAny_letOwnedTupleGo_zip (s := { s with heap := h', toks := tk }) z' fun h'' z'' sb => ?_⟩
    have hT2 : h''.get? s.heap.objs.size = some { cls := .type "tuple", data := .seq #[u, u2] } := (sb.2 _ (Nat.ne_of_gt hzl)).trans hT
    have new : ObjOk X.prog X.w (upd H s.heap.objs.size (.tup [x, y])) h'' s.heap.objs.size (.tup [x, y]) :=
      ⟨by show 2 ≤ sizeLine; decide, [u, u2], .cons ru (.cons ru2 .nil), ⟨_, hT2, rfl, _, rfl⟩⟩
    have I1 : Inv X pins σ (upd H s.heap.objs.size (.tup [x, y])) { s with heap := h'', toks := tk } :=
      I.turnedNew (t' := tk) (ch := [z, TI, TO, i1, i2]) (fun c o hb q => (sb.2 c (fun q' => hb (by simp [q']))).trans (hk c o (fun q' => hb (by simp [q'])) (fun q' => hb (by simp [q'])) (fun q' => hb (by simp [q'])) (fun q' => hb (by simp [q'])) q)) hf (Nat.le_refl _) new
    refine ⟨.ref s.heap.objs.size, _, I1, rfl, ⟨_, x, y, rfl, I.hok.fresh (Nat.le_refl _), rfl, fun l hl => by rw [Src.inj I hl hqx]; exact hx, fun l hl => by rw [Src.inj I hl hqy]; exact hy⟩, ⟨z'', ?_, ⟨u, u2, ?_⟩, ?_, ?_⟩, fun c hcm => ?_⟩
    · exact (sb.2 _ D.TIz).trans (hk _ _ D.TIz D.TITO D.TIi1 D.TIi2 hTI)
    · exact (sb.2 _ D.TOz).trans TO'
    · exact Src.it_at (t1 _ _ h1') fun o q => (sb.2 _ D.i1z).trans q
    · exact Src.it_at (t2 _ _ h2') fun o q => (sb.2 _ D.i2z).trans q
    · have hlt : c < s.heap.objs.size := by
        have e' : c = z ∨ c = TI ∨ c = TO ∨ c = i1 ∨ c = i2 := by simpa using hcm
        rcases e' with q | q | q | q | q
        · rw [q]; exact hzl
        · rw [q]; exact Heap.lt_size hTI
        · rw [q]; exact Heap.lt_size hTO
        · rw [q]; obtain ⟨_, e1, _⟩ := Src.it_obj h1; exact Heap.lt_size e1
        · rw [q]; obtain ⟨_, e2, _⟩ := Src.it_obj h2; exact Heap.lt_size e2
      rw [upd_ne (Nat.ne_of_lt hlt)]
      exact (hf c hcm).1
  done := by
    intro X hP hw hK hc i pins s σ H E I hf st hg
    subst hP hw hK
    obtain ⟨hz, hTI, ⟨x0, y0, hTO⟩, h1, h2⟩ := st
    obtain ⟨xs, ys, hqx, hqy, hend⟩ := hg
    obtain ⟨f1, P1, S1, D1, s1, m1, o1, p1, t1⟩ := Src.draws (A := X.A.in1) I (I.ok.hd hc) hqx h1 D.a1
    obtain ⟨f2, P2, S2, D2, s2, m2, o2, p2, t2⟩ := Src.draws (A := X.A.in1) I (I.ok.hd hc) hqy h2 D.b2
    have sep : ZipSep2 z TI TO i1 i2 f1 f2 := ⟨D.TIz, D.TOz, D.TITO, D.TIi1, m1, o1 _ D.i1z.symm D.az, o1 _ D.TOi1 D.aT, D.TIi2, m2, o2 _ D.i2z.symm D.bz, o2 _ D.TOi2 D.bT, o2 _ D.i12 D.b1, o1 _ D.i12.symm D.a2⟩
    exact wpAny_pyNext_zipD2_end sep D1 D2 hz hTI hTO s1 s2 (by omega) (by omega) (by omega) fun h' tk hk => ⟨rfl, I.turnedL (t' := tk) (ch := [z, TI, TO, i1, i2]) (fun c o hb q =>
      hk c o (fun q' => hb (by simp [q'])) (fun q' => hb (by simp [q'])) (fun q' => hb (by simp [q'])) (fun q' => hb (by simp [q'])) q) hf⟩
  self := fun A i s Q E st h => wpAny_pyIter_zip st.1 h
/-- how a source begins -/
theorem Src.begins {S : Src} {xs : List V} {u : Value} (I : Inv X pins σ H s) (h : S.has X.K H xs) (r : RelV S.val u) : ∃ (o : Obj) (Hh : Heap → Prop), Begins u o Hh ∧ Hh s.heap ∧ (∀ (h' : Heap) (it : Addr), h'.get? it = some o → S.it it 0 h') ∧ ∀ c, s.heap.objs.size ≤ c → S.off c := by
  cases S with
  | lst a =>
    cases r
    obtain ⟨its, rv, p, _⟩ := I.list h
    exact ⟨_, _, begins_list a its.toArray, p.isList, fun h' it e => ⟨_, e, rfl, rfl⟩, fun c hc => Nat.ne_of_lt (Nat.lt_of_lt_of_le p.lt hc)⟩
  | tup a =>
    cases r
    obtain ⟨its, rv, p, _⟩ := I.tuple h
    obtain ⟨o, e, _⟩ := id p
    exact ⟨_, _, begins_tuple a its.toArray, p, fun h' it e => ⟨_, e, rfl, rfl⟩, fun c hc => Nat.ne_of_lt (Nat.lt_of_lt_of_le (Heap.lt_size e) hc)⟩
  | txt z =>
    obtain ⟨t, rfl⟩ := r
    exact ⟨_, _, begins_text z t, trivial, fun h' it e => ⟨t, _, e, rfl, rfl⟩, fun _ _ => trivial⟩
theorem ap_ne (N a b : Nat) (h : a ≠ b) : N + a ≠ N + b := by omega
theorem apart5_new {A B : Src} {N : Nat} (f1 : ∀ c, N ≤ c → A.off c) (f2 : ∀ c, N ≤ c → B.off c) : Apart5 A B (N + 4) (N + 2) (N + 3) N (N + 1) :=
  ⟨ap_ne N 2 4 (by decide), ap_ne N 3 4 (by decide), ap_ne N 0 4 (by decide), ap_ne N 1 4 (by decide), ap_ne N 2 3 (by decide), ap_ne N 2 0 (by decide), ap_ne N 2 1 (by decide), ap_ne N 3 0 (by decide), ap_ne N 3 1 (by decide), ap_ne N 0 1 (by decide),
    f1 _ (Nat.le_add_right _ _), f1 _ (Nat.le_add_right _ _), f1 _ (Nat.le_refl _), f1 _ (Nat.le_add_right _ _), f2 _ (Nat.le_add_right _ _), f2 _ (Nat.le_add_right _ _), f2 _ (Nat.le_refl _), f2 _ (Nat.le_add_right _ _)⟩
def iZipG (K : PySem.W.Frag) (ta : TA) : TI := fun σ H R => ta σ H fun vs H1 => ∃ (A B : Src) (xs ys : List V), vs = [A.val, B.val] ∧ A.has K H1 xs ∧ B.has K H1 ys ∧ R (ItzG K A B) H1
theorem pi_zipG {X : Cx} {e e2 : Expr} {ta : TA} {p pos tpos : Pos} {elts : List Expr} {kk : Nat} (hg : Gl X "zip") (hm : X.mg "zip" = none) (ha : PA X [e, e2] ta)
    (hs : starEach [e, e2] X.env = (false, eval e X.env) :: starEach [e2] X.env := by rfl) (hpl : (backTo pos (starEach [e2] X.env)).any (·.1) = false := by rfl) :
    PI X (.Tuple elts kk tpos) (.Call (.Name "zip" p) [e, e2] [] pos) (iZipG X.K ta) := by
  refine ⟨fun pins s σ H R I h => ?_⟩
  refine Call_ (ld_blt I hg hm PyProof.Rows.boot_zip (PyProof.Rows.callWith_type1 (thn (ha.run pos pins s σ H _ I h) fun us s1 ⟨vs, H1, I1, r1, q1⟩ => ?_) hs hpl))
  obtain ⟨A, B, xs, ys, ex, ha1, hb1, q⟩ := q1
  subst ex
  cases r1 with
  | cons r rr =>
    cases rr with
    | cons r' rr =>
      cases rr
      obtain ⟨o1, G1, B1, g1, n1, f1⟩ := Src.begins I1 ha1 r
      obtain ⟨o2, G2, B2, g2, n2, f2⟩ := Src.begins I1 hb1 r'
      refine zip_begins2 B1 B2 g1 g2 fun h' hz hTI hTO e1 e2 hsz hk => wpAny_pyIter_zip hz ?_
      have I2 : Inv X pins σ H1 { s1 with heap := h' } := I1.kept (t' := s1.toks) hk
      have ap : Apart5 A B (s1.heap.objs.size + 4) (s1.heap.objs.size + 2) (s1.heap.objs.size + 3) s1.heap.objs.size (s1.heap.objs.size + 1) :=
        apart5_new f1 f2
      refine ⟨s1.heap.objs.size + 4, [s1.heap.objs.size + 4, s1.heap.objs.size + 2, s1.heap.objs.size + 3, s1.heap.objs.size, s1.heap.objs.size + 1], _, _, H1, rfl, I2, turn_zipG ap, ⟨hz, hTI, ⟨_, _, hTO⟩, n1 _ _ e1, n2 _ _ e2⟩, fun c hcm => ?_, q⟩
      have e' : c = s1.heap.objs.size + 4 ∨ c = s1.heap.objs.size + 2 ∨ c = s1.heap.objs.size + 3 ∨ c = s1.heap.objs.size ∨ c = s1.heap.objs.size + 1 := by simpa using hcm
      have hle : s1.heap.objs.size ≤ c := by
        rcases e' with z | z | z | z | z
        · rw [z]; exact Nat.le_add_right _ _
        · rw [z]; exact Nat.le_add_right _ _
        · rw [z]; exact Nat.le_add_right _ _
        · rw [z]; exact Nat.le_refl _
        · rw [z]; exact Nat.le_add_right _ _
      exact I1.fpOk hle (I1.hok.fresh hle)
/-! ### enumerate -/
def IteG (K : PySem.W.Frag) (A : Src) : It :=
  ⟨fun i H => ∃ (xs : List V) (x : V), A.has K H xs ∧ xs[i]? = some x, fun i H v H' => ∃ T x, v = .ref T ∧ H T = none ∧ H' = upd H T (.tup [.int (i : Nat), x]) ∧ ∀ xs, A.has K H xs → xs[i]? = some x, fun i H => ∃ xs : List V, A.has K H xs ∧ xs.length = i⟩
theorem turn_enumG {P : Program} {w : World} {K : PySem.W.Frag} {elts : List Expr} {kk : Nat} {tpos : Pos} {A : Src} {e it : Addr} (hne : e ≠ it) (oe : A.off e) (oi : A.off it) :
    Turn P w K (.Tuple elts kk tpos) (IteG K A) [e, it] e (fun i h => (∃ old, IsEnum h e it ((i : Nat) : Int) old) ∧ A.it it i h) where
  mem := by simp
  obj := fun i h st b hb => by
    obtain ⟨⟨old, he⟩, hi⟩ := st
    have e' : b = e ∨ b = it := by simpa using hb
    rcases e' with z | z
    · rw [z]; exact ⟨_, he, fun v q => nomatch q⟩
    · rw [z]; exact Src.it_obj hi
  keep := fun i h h' st k => let ⟨⟨old, he⟩, hi⟩ := st; ⟨⟨old, k e (by simp) _ he⟩, Src.it_at hi fun o q => k it (by simp) o q⟩
  item := by
    intro X hP hw hK hc i pins s σ H E I hf st hg
    subst hP hw hK
    obtain ⟨⟨old, he⟩, hit⟩ := st
    obtain ⟨xs, x, hq, hx⟩ := hg
    obtain ⟨f1, P1, S1, D1, s1, m1, o1, p1, t1⟩ := Src.draws (A := X.A.in1) I (I.ok.hd hc) hq hit oi
    have hel : e < s.heap.objs.size := Heap.lt_size he
    have hil : it < s.heap.objs.size := by obtain ⟨_, q, _⟩ := Src.it_obj hit; exact Heap.lt_size q
    refine wpAny_pyNext_enum_itemD D1 he s1 (List.getElem?_eq_some_iff.mp hx).1 hne (o1 _ hne oe) fun u h' tk q1 ho hit' hT hsz hk => ?_
    obtain ⟨x', ex, ru⟩ := p1 _ _ q1
    rw [hx] at ex
    cases ex
    refine ⟨_, rfl, wpAny_letOwnedTupleGo_enum (s := { s with heap := h', toks := tk + 1 }) ho fun h'' he' sb => ?_⟩
    have hT2 : h''.get? s.heap.objs.size = some { cls := .type "tuple", data := .seq #[.int i tk, u] } := (sb.2 _ (Nat.ne_of_gt hel)).trans hT
    have new : ObjOk X.prog X.w (upd H s.heap.objs.size (.tup [.int (i : Nat), x])) h'' s.heap.objs.size (.tup [.int (i : Nat), x]) :=
      ⟨by show 2 ≤ sizeLine; decide, [.int i tk, u], .cons ⟨_, rfl⟩ (.cons ru .nil), ⟨_, hT2, rfl, _, rfl⟩⟩
    have I1 : Inv X pins σ (upd H s.heap.objs.size (.tup [.int (i : Nat), x])) { s with heap := h'', toks := tk + 1 } :=
      I.turnedNew (t' := tk + 1) (ch := [e, it]) (fun b ob hb q => (sb.2 b (fun z => hb (by simp [z]))).trans (hk b ob (fun z => hb (by simp [z])) (fun z => hb (by simp [z])) q)) hf (Nat.le_refl _) new
    refine ⟨.ref s.heap.objs.size, _, I1, rfl, ⟨_, x, rfl, I.hok.fresh (Nat.le_refl _), rfl, fun ys hy => by rw [Src.inj I hy hq]; exact hx⟩, ⟨⟨u, ?_⟩, Src.it_at (t1 _ _ hit') fun o q => (sb.2 it (Ne.symm hne)).trans q⟩, fun b hb => ?_⟩
    · have e1 : ((i + 1 : Nat) : Int) = (i : Int) + 1 := by omega
      rw [e1]; exact he'
    · have hb' : b < s.heap.objs.size := by
        have e' : b = e ∨ b = it := by simpa using hb
        rcases e' with z | z
        · rw [z]; exact hel
        · rw [z]; exact hil
      rw [upd_ne (Nat.ne_of_lt hb')]
      exact (hf b hb).1
  done := by
    intro X hP hw hK hc i pins s σ H E I hf st hg
    subst hP hw hK
    obtain ⟨⟨old, he⟩, hit⟩ := st
    obtain ⟨xs, hq, hx⟩ := hg
    subst hx
    obtain ⟨f1, P1, S1, D1, s1, m1, o1, p1, t1⟩ := Src.draws (A := X.A.in1) I (I.ok.hd hc) hq hit oi
    obtain ⟨f0, f1', f2, f3, f4, f5⟩ := hf it (by simp)
    exact wpAny_pyNext_enum_endD D1 he s1 fun h' eb => ⟨rfl, I.turned (t' := s.toks) (fun b o hb q => eb b o hb q) f0 f1' f3 f4 f5⟩
  self := fun A i s Q E st h => let ⟨⟨_, he⟩, _⟩ := st; wpAny_pyIter_enum he h
theorem meets_enumerate_new1B {v : Value} {o : Obj} {H : Heap → Prop} (B : Begins v o H) :
    Meets (Builtin.«enumerate.__new__» ⟨[.type "enumerate", v], []⟩) (fun _ R s => H s.heap ∧
      R (.ok (.ret (.ref (s.heap.push o).objs.size))) { s with heap := (s.heap.push o).push { cls := .type "enumerate", data := .fields #[.none, .bool false, .ref s.heap.objs.size, rawInt 0, .none, .none] } }) :=
  .of_wp fun prog w A R s h => by
    obtain ⟨hp, g, d, tk, os⟩ := s; obtain ⟨h1, h⟩ := h
    have hsub := sub_enumerate
    have q1 : ∀ {A' : Around} {E : Value → Shared → Prop} {Q : Value → Shared → Prop}, Q (.ref hp.objs.size) ⟨hp.push o, g, d, tk, os⟩ → wpAny (model prog w) A' (pyIter v) Q E ⟨hp, g, d, tk, os⟩ :=
      fun q => B.iter prog w _ _ ⟨hp, g, d, tk, os⟩ _ h1 q
    wp_walk
    refine wpAny_stack_any fun st => wpAny_pure ?_
    split
    · rename_i c _ _ _ _ _
      cases (c == Value.type "enumerate")
      · wp_walk using q1
        exact ⟨_, rfl, h⟩
      · wp_walk using q1
        exact ⟨_, rfl, h⟩
    · wp_walk using q1
      exact ⟨_, rfl, h⟩
theorem enum_begins1 {prog : Program} {w : World} {A : Around} {E : Value → Shared → Prop} {s : Shared} {v : Value} {o : Obj} {H : Heap → Prop} {Q : Value → Shared → Prop} (B : Begins v o H) (h1 : H s.heap)
    (h : ∀ h', IsEnum h' (s.heap.objs.size + 1) s.heap.objs.size 0 .none → h'.get? s.heap.objs.size = some o → h'.objs.size = s.heap.objs.size + 2 →
      (∀ b o, s.heap.get? b = some o → h'.get? b = some o) → Q (.ref (s.heap.objs.size + 1)) { s with heap := h' }) :
    wpAny (model prog w) A (call (.type "enumerate") [v]) Q E s := by
  refine callType_new F.called_enumerate (by decide) (F.typeCall_enumerate_1 _) (F.newCall_enumerate_1 _) (fun obj => F.args_object_init_2 obj _) F.entry_enumerate_new
    (meets_enumerate_new1B B) ⟨h1, ?_⟩
  have hz : (s.heap.push o).objs.size = s.heap.objs.size + 1 := Heap.size_push ..
  show _ ∧ _
  rw [hz]
  have he : IsEnum ((s.heap.push o).push { cls := .type "enumerate", data := .fields #[.none, .bool false, .ref s.heap.objs.size, rawInt 0, .none, .none] }) (s.heap.objs.size + 1) s.heap.objs.size 0 .none := by
    have := Heap.get?_push_size (s.heap.push o) (o := { cls := .type "enumerate", data := .fields #[.none, .bool false, .ref s.heap.objs.size, rawInt 0, .none, .none] }) rfl
    rw [hz] at this
    exact this
  exact ⟨⟨_, he, rfl⟩, h _ he (Heap.get?_push_of_some _ (Heap.get?_push_size _ B.free)) (by rw [Heap.size_push, hz]) fun b o x => Heap.get?_push_of_some _ (Heap.get?_push_of_some _ x)⟩
def iEnumG (K : PySem.W.Frag) (ta : TA) : TI := fun σ H R => ta σ H fun vs H1 => ∃ (A : Src) (xs : List V), vs = [A.val] ∧ A.has K H1 xs ∧ R (IteG K A) H1
theorem pi_enumG {X : Cx} {e : Expr} {ta : TA} {p pos tpos : Pos} {elts : List Expr} {kk : Nat} (hg : Gl X "enumerate") (hm : X.mg "enumerate" = none) (ha : PA X [e] ta) (hs : starEach [e] X.env = [(false, eval e X.env)] := by rfl) :
    PI X (.Tuple elts kk tpos) (.Call (.Name "enumerate" p) [e] [] pos) (iEnumG X.K ta) := by
  refine ⟨fun pins s σ H R I h => ?_⟩
  refine Call_ (ld_blt I hg hm boot_enumerate (PyProof.Rows.callWith_type1 (thn (ha.run pos pins s σ H _ I h) fun us s1 ⟨vs, H1, I1, r1, q1⟩ => ?_) hs rfl))
  obtain ⟨A, xs, ex, hq, q⟩ := q1
  subst ex
  cases r1 with
  | cons r rr =>
    cases rr
    obtain ⟨o1, G1, B1, g1, n1, f1⟩ := Src.begins I1 hq r
    refine enum_begins1 B1 g1 fun h' he hit hsz hk => wpAny_pyIter_enum he ?_
    have I2 : Inv X pins σ H1 { s1 with heap := h' } := I1.kept (t' := s1.toks) hk
    refine ⟨s1.heap.objs.size + 1, [s1.heap.objs.size + 1, s1.heap.objs.size], _, _, H1, rfl, I2, turn_enumG (Nat.succ_ne_self _) (f1 _ (Nat.le_add_right _ _)) (f1 _ (Nat.le_refl _)), ⟨⟨.none, he⟩, n1 _ _ hit⟩, fun b hb => ?_, q⟩
    have e' : b = s1.heap.objs.size + 1 ∨ b = s1.heap.objs.size := by simpa using hb
    have hle : s1.heap.objs.size ≤ b := by
      rcases e' with z | z
      · rw [z]; exact Nat.le_add_right _ _
      · rw [z]; exact Nat.le_refl _
    exact I1.fpOk hle (I1.hok.fresh hle)
end
end L2X
/-! comprehensions and loops over zip and enumerate of anything -/
namespace L2X
open PySem PySem.Spec PyProof.Rows L2
theorem lc_zipG {K : PySem.W.Frag} {A B : Src} {xs ys : List V} {g : TG} {tt : TT} {te : TE} {vs : List Nat} {σ : L2.St} {H1 : Hp} {D : Addr} {Qd : Hp → Prop} (hn : xs.length = ys.length) (Pv : Nat → Hp → Prop) (h0 : Pv 0 (upd H1 D (.lst []))) (hl : ∀ i H, i ≤ xs.length → Pv i H → A.has K H xs ∧ B.has K H ys)
    (hs : ∀ i x y H T, xs[i]? = some x → ys[i]? = some y → Pv i H → H T = none → g (.ref T) (wipe σ vs) (upd H T (.tup [x, y])) fun σ2 H2 => wipe σ2 vs = wipe σ vs ∧ tt σ2 H2 fun b H3 =>
      if b = true then te σ2 H3 fun z H4 => ∃ acc, H4 D = some (.lst acc) ∧ acc.length < sizeLine ∧ Pv (i + 1) (upd H4 D (.lst (acc ++ [z]))) else Pv (i + 1) H3) (hd : ∀ H, Pv xs.length H → Qd H) :
    ∃ W : Nat → Nat → Hp → Prop, (∃ m, W 0 m (upd H1 D (.lst []))) ∧ ∀ i m H, W i m H →
      ((ItzG K A B).stop i H ∧ Qd H) ∨ ((ItzG K A B).go i H ∧ ∃ Nx : Hp → Prop, (∀ H', Nx H' → ∃ m', m' < m ∧ W (i + 1) m' H') ∧ ∀ x H', (ItzG K A B).yld i H x H' → g x (wipe σ vs) H' fun σ2 H2 => wipe σ2 vs = wipe σ vs ∧ tt σ2 H2 fun b H3 =>
        if b = true then te σ2 H3 fun y H4 => ∃ acc, H4 D = some (.lst acc) ∧ acc.length < sizeLine ∧ Nx (upd H4 D (.lst (acc ++ [y]))) else Nx H3) := by
  refine ⟨fun i m H => m = xs.length - i ∧ i ≤ xs.length ∧ Pv i H, ⟨xs.length, by simp, Nat.zero_le _, h0⟩, ?_⟩
  rintro i m H ⟨rfl, hi, p⟩
  obtain ⟨qx, qy⟩ := hl i H hi p
  by_cases hlt : i < xs.length
  · have hlt2 : i < ys.length := by omega
    have ex : xs[i]? = some xs[i] := List.getElem?_eq_getElem hlt
    have ey : ys[i]? = some ys[i] := List.getElem?_eq_getElem hlt2
    refine .inr ⟨⟨xs, ys, _, _, qx, qy, ex, ey⟩, Pv (i + 1), fun H' p' => ⟨xs.length - (i + 1), by omega, rfl, hlt, p'⟩, fun x H' y => ?_⟩
    obtain ⟨T, u, v, rfl, nT, rfl, z1, z2⟩ := y
    exact hs i u v H T (z1 xs qx) (z2 ys qy) p nT
  · have e : i = xs.length := by omega
    subst e
    exact .inl ⟨⟨xs, ys, qx, qy, .inl ⟨rfl, by omega⟩⟩, hd H p⟩
theorem lc_enumG {K : PySem.W.Frag} {A : Src} {xs : List V} {g : TG} {tt : TT} {te : TE} {vs : List Nat} {σ : L2.St} {H1 : Hp} {D : Addr} {Qd : Hp → Prop} (Pv : Nat → Hp → Prop) (h0 : Pv 0 (upd H1 D (.lst []))) (hl : ∀ i H, i ≤ xs.length → Pv i H → A.has K H xs)
    (hs : ∀ i x H T, xs[i]? = some x → Pv i H → H T = none → g (.ref T) (wipe σ vs) (upd H T (.tup [.int (i : Nat), x])) fun σ2 H2 => wipe σ2 vs = wipe σ vs ∧ tt σ2 H2 fun b H3 =>
      if b = true then te σ2 H3 fun z H4 => ∃ acc, H4 D = some (.lst acc) ∧ acc.length < sizeLine ∧ Pv (i + 1) (upd H4 D (.lst (acc ++ [z]))) else Pv (i + 1) H3) (hd : ∀ H, Pv xs.length H → Qd H) :
    ∃ W : Nat → Nat → Hp → Prop, (∃ m, W 0 m (upd H1 D (.lst []))) ∧ ∀ i m H, W i m H →
      ((IteG K A).stop i H ∧ Qd H) ∨ ((IteG K A).go i H ∧ ∃ Nx : Hp → Prop, (∀ H', Nx H' → ∃ m', m' < m ∧ W (i + 1) m' H') ∧ ∀ x H', (IteG K A).yld i H x H' → g x (wipe σ vs) H' fun σ2 H2 => wipe σ2 vs = wipe σ vs ∧ tt σ2 H2 fun b H3 =>
        if b = true then te σ2 H3 fun y H4 => ∃ acc, H4 D = some (.lst acc) ∧ acc.length < sizeLine ∧ Nx (upd H4 D (.lst (acc ++ [y]))) else Nx H3) := by
  refine ⟨fun i m H => m = xs.length - i ∧ i ≤ xs.length ∧ Pv i H, ⟨xs.length, by simp, Nat.zero_le _, h0⟩, ?_⟩
  rintro i m H ⟨rfl, hi, p⟩
  have qx := hl i H hi p
  by_cases hlt : i < xs.length
  · have ex : xs[i]? = some xs[i] := List.getElem?_eq_getElem hlt
    refine .inr ⟨⟨xs, _, qx, ex⟩, Pv (i + 1), fun H' p' => ⟨xs.length - (i + 1), by omega, rfl, hlt, p'⟩, fun x H' y => ?_⟩
    obtain ⟨T, u, rfl, nT, rfl, z1⟩ := y
    exact hs i u H T (z1 xs qx) p nT
  · have e : i = xs.length := by omega
    subst e
    exact .inl ⟨⟨xs, qx, rfl⟩, hd H p⟩
end L2X
namespace L2X
open PySem PySem.Spec PyProof.Rows L2
theorem eqAt_ty {A : Around} {s : Shared} {a b : String} (ha : tyOk a = true) (hb : tyOk b = true) : SeqAt.EqAt A s (.type a) (.type b) (decide (a = b)) := fun prog w E Q h => by
  unfold eqBool
  refine wpAny_holding ?_
  by_cases e : a = b
  · subst e
    rw [decide_eq_true rfl] at h
    refine wpAny_ite_split (fun _ => ?_) (fun n => absurd (beq_self_eq_true _) n)
    exact wpAny_pure (M := model prog w) (E := E) h
  · rw [decide_eq_false e] at h
    refine wpAny_ite_split (fun q => ?_) (fun _ => ?_)
    · rw [ty_ne e] at q
      cases q
    · have z : wpAny (model prog w) A (compareOp .Eq (.type a) (.type b)) (fun v s' => v = .bool false ∧ s' = s) E s := TypeEq.eq_type_other (tyOk_is ha) (tyOk_is hb) (ty_ne e) ⟨rfl, rfl⟩
      exact wpAny_bind (wpAny_mono z (fun v s' q => by
        obtain ⟨rfl, rfl⟩ := q
        exact wpAny_truthy_bool h) fun _ _ x => x)
def tyIs (a : String) : Value → Bool
  | .type T => decide (T = a)
  | _ => false
def rInTy (K : PySem.W.Frag) : R2 := fun x y H Q => ∃ (a : String) (p : Addr) (ts : List String), x = .ty a ∧ y = .ref p ∧ SqT K H p (ts.map V.ty) ∧ tyOk a = true ∧ ts.all tyOk = true ∧ Q (.bl (ts.any fun t => decide (t = a))) H
theorem vals_tys : ∀ {ts : List String} {us : List Value}, Vals (ts.map V.ty) us → us = ts.map Value.type
  | [], _, .nil => rfl
  | t :: ts, _, .cons r rr => by
    cases (show _ = Value.type t from r)
    rw [vals_tys rr]
    rfl
theorem op_in_ty {X : Cx} : OpR X (compareOp .In) (rInTy X.K) := by
  intro pins s σ H x y v u Q I rx ry h
  obtain ⟨a, p, ts, rfl, rfl, hq, ha, hts, q⟩ := h
  cases ry
  cases (show v = Value.type a from rx)
  obtain ⟨its, r, pl, hz⟩ := I.tuple hq
  have e := vals_tys r
  subst e
  refine SeqAt.in_tupleAt (tyIs a) pl (fun w hw => ?_) ⟨.bl _, H, I, rfl, ?_⟩
  · obtain ⟨t, ht, rfl⟩ : ∃ t, t ∈ ts ∧ w = Value.type t := by
      obtain ⟨t, ht, e⟩ := List.mem_map.mp (show w ∈ ts.map Value.type by simpa using hw)
      exact ⟨t, ht, e.symm⟩
    exact eqAt_ty (List.all_eq_true.mp hts t ht) ha
  · have e : (ts.map Value.type).toArray.any (tyIs a) = ts.any fun t => decide (t = a) := by
      simp [List.any_map]
      rfl
    rw [e]
    exact q
end L2X
namespace Dt
open PySem PySem.Spec PyProof.Rows L2 L2X
/-! ### kinds -/
def isInt : V → Bool
  | .int _ => true
  | _ => false
theorem isInt_ty {K : PySem.W.Frag} {H : Hp} {x : V} {T : String} (t : TyB K H x T) : decide (T = "int") = isInt x := by
  cases t <;> rfl
def betw : V → Int → Int → Bool
  | .int i, lo, hi => decide (lo ≤ i) && decide (i ≤ hi)
  | _, _, _ => false
theorem betw_int (i lo hi : Int) : betw (.int i) lo hi = (decide (lo ≤ i) && decide (i ≤ hi)) := rfl
theorem betw_no {x : V} {lo hi : Int} (h : isInt x = false) : betw x lo hi = false := by
  cases x with
  | int i => cases h
  | _ => rfl
/-- a thing of a known kind -/
def Kt (K : PySem.W.Frag) (H : Hp) (x : V) : Prop := ∃ T, TyB K H x T ∧ tyOk T = true
abbrev sIsNum : Stmt := topS 15
theorem scIsNum : FnScope ["thing"] ["thing"] (defScope sIsNum) := ⟨rfl, rfl, rfl, by decide +kernel, rfl, by decide +kernel, by decide +kernel⟩
def spIsNum (K : PySem.W.Frag) : Sp := fun vs H Q _ => ∃ x, vs = [x] ∧ Kt K H x ∧ Q (.bl (isInt x)) H
abbrev sBetw : Stmt := topS 16
theorem scBetw : FnScope ["thing", "least", "most"] ["thing", "least", "most"] (defScope sBetw) := ⟨rfl, rfl, rfl, by decide +kernel, rfl, by decide +kernel, by decide +kernel⟩
def spBetw (K : PySem.W.Frag) : Sp := fun vs H Q _ => ∃ x lo hi, vs = [x, .int lo, .int hi] ∧ Kt K H x ∧ Q (.bl (betw x lo hi)) H
abbrev sIsList : Stmt := topS 18
theorem scIsList : FnScope ["thing"] ["thing"] (defScope sIsList) := ⟨rfl, rfl, rfl, by decide +kernel, rfl, by decide +kernel, by decide +kernel⟩
def spIsList (K : PySem.W.Frag) : Sp := fun vs H Q _ => ∃ x T, vs = [x] ∧ TyB K H x T ∧ tyOk T = true ∧ ∀ H', Same H H' → Q (.bl (decide ("list" = T) || decide ("tuple" = T))) H'
section
variable {P : Program} {w : World} {K : PySem.W.Frag} {mg : Str → Option Value} {base : Heap}
theorem ok_isNum {f : Addr} {fd : FuncData} {k : Nat} (F : Fun K "is_number" "is_number" sIsNum f fd) (T : Tp mg) (X : Tx mg) : FnOk P w K mg base CX0 (k + 1) f fd ["thing"] (spIsNum K) := by
  refine F.ok scIsNum (fun vs H Q E h => ?_) (fun cdv A outer s H vs Q E hr h => ?_)
  · obtain ⟨x, rfl, _⟩ := h
    rfl
  · obtain ⟨x, rfl, ⟨Ty, ht, ok⟩, q⟩ := h
    refine ⟨_, pss_one (ps_ret (pe_cmpR op_eq_ty (pe_callTy call_type1 (by rfl) T.typ (by decide +kernel) (pa_cons (pv 0) pa_nil)) (pe_bltn (v := .ty "int") (u := .type "int") (by rfl) X.int (by decide +kernel) rfl) (nomark _))), ?_⟩
    refine ⟨x, rfl, x, Ty, rfl, ht, Ty, "int", rfl, rfl, ok, rfl, ?_⟩
    have e : id (decide (Ty = "int")) = isInt x := isInt_ty ht
    rw [e]
    exact q
theorem ok_betw {f fN : Addr} {fd fdN : FuncData} {k : Nat} (F : Fun K "is_between" "is_between" sBetw f fd) (GN : FnOk P w K mg base CX0 (k + 1) fN fdN ["thing"] (spIsNum K)) (mN : mg "is_number" = some (.ref fN)) (kN : PySem.W.keepIn K (.ref fN) = true) (bN : Binds K fdN ["thing"] []) : FnOk P w K mg base CX0 (k + 2) f fd ["thing", "least", "most"] (spBetw K) := by
  refine F.ok scBetw (fun vs H Q E h => ?_) (fun cdv A outer s H vs Q E hr h => ?_)
  · obtain ⟨x, lo, hi, rfl, _⟩ := h
    rfl
  · obtain ⟨x, lo, hi, rfl, kt, q⟩ := h
    refine ⟨_, pss_one (ps_ret (pe_and (pe_call GN hr (by rfl) mN kN bN .nil pass0 (pa_cons (pv 0) pa_nil)) (pe_one (pe_chain op_le op_le (pv 1) (pv 0) (pv 2))))), ?_⟩
    refine ⟨x, rfl, x, rfl, kt, _, rfl, ?_⟩
    cases x with
    | int i =>
      refine iteT ⟨.int lo, rfl, .int i, rfl, lo, i, rfl, rfl, _, rfl, ite2 (fun e => ?_) (fun e => ?_)⟩
      · refine ⟨.int hi, rfl, i, hi, rfl, rfl, ?_⟩
        rw [betw_int, e, Bool.true_and] at q
        exact q
      · rw [betw_int, Bool.eq_false_iff.mpr e, Bool.false_and] at q
        exact q
    | _ => exact iteF q
theorem ok_isList {f : Addr} {fd : FuncData} {k : Nat} (F : Fun K "is_list" "is_list" sIsList f fd) (T : Tp mg) (X : Tx mg) : FnOk P w K mg base CX0 (k + 1) f fd ["thing"] (spIsList K) := by
  refine F.ok scIsList (fun vs H Q E h => ?_) (fun cdv A outer s H vs Q E hr h => ?_)
  · obtain ⟨x, Ty, rfl, _⟩ := h
    rfl
  · obtain ⟨x, Ty, rfl, ht, ok, q⟩ := h
    refine ⟨_, pss_one (ps_ret (pe_cmpR op_in_ty (pe_callTy call_type1 (by rfl) T.typ (by decide +kernel) (pa_cons (pv 0) pa_nil)) (pe_tup (pa_cons (pe_bltn (v := .ty "list") (u := .type "list") (by rfl) X.list (by decide +kernel) rfl) (pa_cons (pe_bltn (v := .ty "tuple") (u := .type "tuple") (by rfl) X.tuple (by decide +kernel) rfl) pa_nil))) (by with_unfolding_all rfl))), ?_⟩
    refine ⟨x, rfl, x, Ty, rfl, ht, by show 2 ≤ sizeLine; decide, fun p hp => ⟨Ty, p, ["list", "tuple"], rfl, rfl, SqT.of upd_same, ok, rfl, ?_⟩⟩
    have e : (["list", "tuple"].any fun t => decide (t = Ty)) = (decide ("list" = Ty) || decide ("tuple" = Ty)) := by simp
    rw [e]
    exact q _ (same_upd hp)
end
end Dt
/-! what many laws share -/
namespace L2X
open PySem PySem.Spec PyProof.Rows L2
theorem PI.or {X : Cx} {tg it : Expr} {w1 w2 : TI} (a : PI X tg it w1) (b : PI X tg it w2) : PI X tg it (fun σ H R => w1 σ H R ∨ w2 σ H R) :=
  ⟨fun pins s σ H R I h => h.elim (a.run pins s σ H R I) (b.run pins s σ H R I)⟩
def rJoinK (K : PySem.W.Frag) : V → List V → Hp → VK → Prop := fun x xs H Q => ∃ a p, ∃ ys : List Str, x = .str a ∧ xs = [.ref p] ∧ (SqL K H p (ys.map V.str) ∨ SqT K H p (ys.map V.str)) ∧ (ys.map (·.length)).sum + ys.length * a.length ≤ 16777216 ∧ Q (.str (Txt.join a ys)) H
theorem pe_joinK {X : Cx} {o e : Expr} {to te : TE} {pos apos : Pos} {K : PySem.W.Frag} (hK : X.K = K) (ho : PE X o to) (he : PE X e te) (hs : starEach [e] X.env = [(false, eval e X.env)] := by rfl) (hbase : attributeBase o "join" X.env (eval o X.env) = eval o X.env := by rfl) (hline : (apos.endLine == pos.line) = true := by rfl) :
    PE X (.Call (.Attribute o "join" apos) [e] [] pos) (tM1 (rJoinK K) to te) := by
  subst hK
  exact pe_join ho he hs hbase hline
end L2X
namespace Dt
open PySem PySem.Spec PyProof.Rows L2 L2X LamX
open SX (S)
def ch (c : Nat) : V := .str ⟨#[c]⟩
structure RowsR (high wide : Nat) (rs : List (List Nat)) : Prop where
  len : rs.length = high
  row : ∀ l ∈ rs, RowR wide l
theorem PicR.rows {high wide : Nat} {rs : List (List Nat)} (h : PicR high wide rs) : RowsR high wide rs := ⟨h.len, h.row⟩
theorem set_getD {ls : List (List Nat)} {r : Nat} {l : List Nat} (h : ls[r]? = some l) : ls.getD r [] = l := by
  rw [List.getD_eq_getElem?_getD, h]
  rfl
theorem getD_at {l : List Nat} {c x : Nat} (h : l[c]? = some x) : l.getD c 0 = x := by
  rw [List.getD_eq_getElem?_getD, h]
  rfl
structure Plc (K : PySem.W.Frag) (H : Hp) (xs : List V) (ps : List (Nat × Nat)) : Prop where
  len : xs.length = ps.length
  at_ : ∀ (i : Nat) (x : V) (p : Nat × Nat), xs[i]? = some x → ps[i]? = some p → ∃ t, x = .ref t ∧ SqT K H t [.int p.1, .int p.2]
theorem Plc.same {K : PySem.W.Frag} {H H' : Hp} {xs : List V} {ps : List (Nat × Nat)} (h : Plc K H xs ps) (s : Same H H') : Plc K H' xs ps :=
  ⟨h.len, fun i x p a b => let ⟨t, e, z⟩ := h.at_ i x p a b; ⟨t, e, sameT s z⟩⟩
theorem chars_row (l : List Nat) : (S l).cps.toList.map (fun c => V.str ⟨#[c]⟩) = l.map ch := by
  unfold S
  rfl
theorem same_over {H0 H : Hp} {a : Addr} {o : HO} (s : Same H0 H) (n : H0 a = none) : Same H0 (upd H a o) := fun b u e => by
  rw [upd_ne (ne_of_none e n)]
  exact s _ _ e
theorem lens_rows (cs : List Nat) : ((cs.map fun c => (⟨#[c]⟩ : Str)).map (·.length)).sum = cs.length := lens_ones cs
theorem join_row (cs : List Nat) : Txt.join "" (cs.map fun c => (⟨#[c]⟩ : Str)) = S cs := join_ones cs
theorem ixN_at {n j : Nat} (hj : j < n) : ixN n (j : Int) = some j := by
  unfold ixN
  rw [if_pos (by omega), if_pos (by omega)]
  simp
theorem chars_S (l : List Nat) : chars (S l) = l.map fun c => V.str ⟨#[c]⟩ := by
  unfold chars S
  simp
theorem sum_ones : ∀ n : Nat, (List.replicate n (1 : Int)).sum = n
  | 0 => rfl
  | n + 1 => by
    rw [List.replicate_succ, List.sum_cons, sum_ones n]
    omega
theorem ch_dec (a b : Nat) : decide (V.str ⟨#[a]⟩ = V.str ⟨#[b]⟩) = decide (a = b) := by
  apply Bool.eq_iff_iff.mpr
  rw [decide_eq_true_iff, decide_eq_true_iff]
  constructor
  · intro h
    have e1 : (⟨#[a]⟩ : Str) = ⟨#[b]⟩ := V.str.inj h
    have e2 : (#[a] : Array Nat) = #[b] := congrArg Str.cps e1
    have e3 : [a] = [b] := congrArg Array.toList e2
    exact (List.cons.inj e3).1
  · intro h
    rw [h]
structure ExN (K : PySem.W.Frag) (mg : Str → Option Value) (nm : Str) (C : Addr) : Prop where
  g : mg nm = some (.ref C)
  x : PySem.W.excIn K C [.type "ValueError", .type "Exception", .type "BaseException", .type "object"] "ValueError.__new__" = true
  k : PySem.W.keepIn K (.ref C) = true
  b : PySem.W.subIn K (.ref C) (.type "BaseException") = some true
  t : PySem.W.typeIn K (.ref C) = some (.type "type")
structure Tz (mg : Str → Option Value) : Prop where
  sum : mg "sum" = none
  zip : mg "zip" = none
theorem tyB_same2 {K : PySem.W.Frag} {H H' : Hp} {x : V} {T : String} (t : TyB K H x T) (s : Same H H') : TyB K H' x T := by
  cases t with
  | non => exact .non
  | bl b => exact .bl b
  | int i => exact .int i
  | str x => exact .str x
  | byt b => exact .byt b
  | lst h => exact .lst (s.seq h)
  | tup h => exact .tup (sameT s h)
  | dK h => exact .dK (s _ _ h)
theorem Kt.same {K : PySem.W.Frag} {H H' : Hp} {x : V} (h : Kt K H x) (s : Same H H') : Kt K H' x := let ⟨T, t, ok⟩ := h; ⟨T, tyB_same2 t s, ok⟩
theorem all_true : ∀ n : Nat, (List.replicate n true).all id = true
  | 0 => rfl
  | n + 1 => by
    rw [List.replicate_succ, List.all_cons, all_true n]
    rfl
theorem Kt.dn {K : PySem.W.Frag} {d g c : Addr} {H H' : Hp} {x : V} (h : Kt K H x) (s : Dn d g H H') (D : Dr H d g c) (D' : Dr H' d g c) : Kt K H' x := let ⟨T, t, ok⟩ := h; ⟨T, tyB_dn s D D' t, ok⟩
theorem Plc.dn {K : PySem.W.Frag} {d g c : Addr} {H H' : Hp} {xs : List V} {ps : List (Nat × Nat)} (h : Plc K H xs ps) (s : Dn d g H H') (D : Dr H d g c) : Plc K H' xs ps :=
  ⟨h.len, fun i x p a b => let ⟨t, e, z⟩ := h.at_ i x p a b; ⟨t, e, sqT_dn s D z⟩⟩
theorem kt_int {K : PySem.W.Frag} {H : Hp} (i : Int) : Kt K H (.int i) := ⟨"int", .int i, rfl⟩
theorem kt_bl {K : PySem.W.Frag} {H : Hp} (b : Bool) : Kt K H (.bl b) := ⟨"bool", .bl b, rfl⟩
def rD (l : List Nat) : PyData := .str (S l)
def pD (p : Nat × Nat) : PyData := .tuple [.int p.1, .int p.2]
theorem strOk_row {l : List Nat} (h : ∀ c ∈ l, c = 35 ∨ c = 46) : PyData.strOk (S l) = true := by
  unfold PyData.strOk S
  simp
  intro c hc
  rcases h c hc with z | z <;> (subst z; decide)
theorem lay_rows : ∀ ls : List (List Nat), (∀ l ∈ ls, ∀ c ∈ l, c = 35 ∨ c = 46) → PyData.canLayAll0 (ls.map rD) = true ∧ PyData.depthAll (ls.map rD) ≤ 1
  | [], _ => ⟨by simp [PyData.canLayAll0], by simp [PyData.depthAll]⟩
  | l :: r, h => by
    obtain ⟨h1, h2⟩ := lay_rows r fun m hm => h m (List.mem_cons_of_mem _ hm)
    refine ⟨?_, ?_⟩
    · rw [List.map_cons]
      simp [PyData.canLayAll0, PyData.canLay0, rD, h1, strOk_row (h l List.mem_cons_self)]
    · rw [List.map_cons]
      simp only [PyData.depthAll, PyData.depth, rD]
      omega
theorem lay_places : ∀ ps : List (Nat × Nat), PyData.canLayAll0 (ps.map pD) = true ∧ PyData.depthAll (ps.map pD) ≤ 3
  | [] => ⟨by simp [PyData.canLayAll0], by simp [PyData.depthAll]⟩
  | p :: r => by
    obtain ⟨h1, h2⟩ := lay_places r
    refine ⟨?_, ?_⟩
    · rw [List.map_cons]
      simp [PyData.canLayAll0, PyData.canLay0, pD, h1]
    · rw [List.map_cons]
      simp only [PyData.depthAll, PyData.depth, pD]
      omega
theorem shaped_rows {high wide : Nat} {ls : List (List Nat)} (R : RowsR high wide ls) : SeqAt.shaped (.tuple (ls.map rD)) = true := by
  obtain ⟨h1, h2⟩ := lay_rows ls fun l hl => (R.row l hl).sg
  unfold SeqAt.shaped
  rw [Bool.and_eq_true, decide_eq_true_iff]
  refine ⟨by simp [PyData.canLay0, h1], ?_⟩
  simp only [PyData.depth]
  omega
theorem shaped_places (ps : List (Nat × Nat)) : SeqAt.shaped (.list (ps.map pD)) = true := by
  obtain ⟨h1, h2⟩ := lay_places ps
  unfold SeqAt.shaped
  rw [Bool.and_eq_true, decide_eq_true_iff]
  refine ⟨by simp [PyData.canLay0, h1], ?_⟩
  simp only [PyData.depth]
  omega
theorem shaped_place (p : Nat × Nat) : SeqAt.shaped (pD p) = true := rfl
theorem eqv_rows : ∀ ls : List (List Nat), PyData.eqvAll (ls.map rD) (ls.map rD) = true
  | [] => by simp [PyData.eqvAll]
  | l :: r => by
    rw [List.map_cons, PyData.eqvAll, eqv_rows r]
    simp [PyData.eqv, rD]
theorem eqv_pD (p q : Nat × Nat) : PyData.eqv (pD p) (pD q) = decide (p = q) := by
  apply Bool.eq_iff_iff.mpr
  rw [decide_eq_true_iff]
  simp [PyData.eqv, PyData.eqvAll, pD, Prod.ext_iff]
  omega
theorem eqv_places : ∀ ps : List (Nat × Nat), PyData.eqvAll (ps.map pD) (ps.map pD) = true
  | [] => by simp [PyData.eqvAll]
  | p :: r => by
    rw [List.map_cons, PyData.eqvAll, eqv_places r, eqv_pD, decide_eq_true rfl]
    rfl
section
variable {K : PySem.W.Frag} {H : Hp}
theorem dp_rows : ∀ ls : List (List Nat), DpAll K H (ls.map rv) (ls.map rD)
  | [] => .nil
  | l :: r => .cons (.str _) (dp_rows r)
theorem dp_place {t : Addr} {p : Nat × Nat} (h : SqT K H t [.int p.1, .int p.2]) : Dp K H (.ref t) (pD p) := .tup h (.cons (.int _) (.cons (.int _) .nil))
theorem dp_places : ∀ {xs : List V} {ps : List (Nat × Nat)}, Plc K H xs ps → DpAll K H xs (ps.map pD)
  | [], [], _ => .nil
  | [], _ :: _, h => nomatch h.len
  | _ :: _, [], h => nomatch h.len
  | x :: xs, p :: ps, h => by
    obtain ⟨t, e, ht⟩ := h.at_ 0 x p rfl rfl
    subst e
    exact .cons (dp_place ht) (dp_places ⟨Nat.succ.inj h.len, fun i y q a b => h.at_ (i + 1) y q a b⟩)
theorem Plc.app {xs ys : List V} {ps qs : List (Nat × Nat)} (a : Plc K H xs ps) (b : Plc K H ys qs) : Plc K H (xs ++ ys) (ps ++ qs) := by
  refine ⟨by rw [List.length_append, List.length_append, a.len, b.len], fun i x p hx hp => ?_⟩
  by_cases hi : i < xs.length
  · rw [List.getElem?_append_left hi] at hx
    rw [List.getElem?_append_left (by rw [← a.len]; exact hi)] at hp
    exact a.at_ i x p hx hp
  · rw [List.getElem?_append_right (by omega)] at hx
    rw [List.getElem?_append_right (by rw [← a.len]; omega), ← a.len] at hp
    exact b.at_ _ x p hx hp
theorem plc_upd {xs ys zs : List V} {ps : List (Nat × Nat)} {l : Addr} (h : Plc K H xs ps) (hl : H l = some (.lst ys)) : Plc K (upd H l (.lst zs)) xs ps := by
  refine ⟨h.len, fun i x p a b => ?_⟩
  obtain ⟨t, e, ht⟩ := h.at_ i x p a b
  refine ⟨t, e, ?_⟩
  rcases ht with (ht | ⟨o, ht⟩) | ht
  · exact SqT.of (by rw [upd_ne (ne_of ht hl (by intro z; cases z))]; exact ht)
  · exact .inl (.inr ⟨o, by rw [upd_ne (ne_of ht hl (by intro z; cases z))]; exact ht⟩)
  · exact .inr ht
theorem Tabs.updl {T : List (Addr × Str)} {H : Hp} {l : Addr} {xs ys : List V} (h : LamX.Tabs T H) (hl : H l = some (.lst xs)) : LamX.Tabs T (upd H l (.lst ys)) := by
  intro p hp
  obtain ⟨ps, e1, e2, e3⟩ := h p hp
  refine ⟨ps, by rw [upd_ne (ne_of e1 hl (by intro z; cases z))]; exact e1, e2, fun pos cv hc => ?_⟩
  obtain ⟨c0, e4, e5⟩ := e3 pos cv hc
  exact ⟨c0, e4, by rw [upd_ne (ne_of e5 hl (by intro z; unfold LamX.CodeO at z; cases z))]; exact e5⟩
theorem Plc.take {xs : List V} {ps : List (Nat × Nat)} (a : Plc K H xs ps) (n : Nat) : Plc K H (xs.take n) (ps.take n) := by
  refine ⟨by rw [List.length_take, List.length_take, a.len], fun i x p hx hp => ?_⟩
  rw [List.getElem?_take] at hx hp
  split at hx
  · rename_i h
    rw [if_pos h] at hp
    exact a.at_ i x p hx hp
  · cases hx
end
theorem sqL_ext {K : PySem.W.Frag} {H H' : Hp} {a : Addr} {xs : List V} (h : SqL K H a xs) (s : ExtN H H') : SqL K H' a xs := by
  rcases h with (h | ⟨o, h⟩) | h
  · exact SqL.of (s _ _ h (fun _ z => nomatch z))
  · exact .inl (.inr ⟨o, s _ _ h (fun _ z => nomatch z)⟩)
  · exact .inr h
theorem Kt.ext {K : PySem.W.Frag} {H H' : Hp} {x : V} (h : Kt K H x) (s : ExtN H H') : Kt K H' x := let ⟨T, t, ok⟩ := h; ⟨T, (Kd.ext s).ty t, ok⟩
theorem Plc.ext {K : PySem.W.Frag} {H H' : Hp} {xs : List V} {ps : List (Nat × Nat)} (h : Plc K H xs ps) (s : ExtN H H') : Plc K H' xs ps := ⟨h.len, fun i x p a b => let ⟨t, e, z⟩ := h.at_ i x p a b; ⟨t, e, (Kd.ext s).sqT z⟩⟩
theorem ext_tup {H H' : Hp} {a : Addr} {xs : List V} (s : ExtN H H') (h : H a = some (.tup xs)) : H' a = some (.tup xs) := s _ _ h (fun _ z => nomatch z)
end Dt
/-! a lambda handed straight to a def that calls what it gets, with room for calls of its own; list.count of data -/
namespace L2X
open PySem PySem.Spec PyProof.Rows L2 LamX
section
variable {X : Cx}
theorem pe_lamcallR {T : List (Addr × Str)} {TT : (XK → Hp → VK → Prop) → Hp → VK → Prop} {x a : Str} {g c P : Addr} {k : Nat} {pg : Arguments} {bg : List Stmt} {sg : Scope} {dV kV doc pm cdv ct oc : Value} {an od : Option Addr} {osl : Array (Option Value)} {Ng : List Str}
    {params : Arguments} {body : Expr} {scope : Scope} {t : XK → TE} {p lpos pos : Pos} (hg : Gl X x) (hm : X.mg x = some (.ref g)) (hk : PySem.W.keepIn X.K (.ref g) = true)
    (lk : X.K.lookup g = some ⟨oc, od, .func (PySem.W.fnOf x x pg bg sg dV kV doc pm an cdv ct), osl⟩) (hcg : PySem.W.codeIn X.K cdv x = true) (hb : L2.Binds X.K (PySem.W.fnOf x x pg bg sg dV kV doc pm an cdv ct) [a] []) (Sg : FnScope Ng [a] sg) (hNg : Ng[0]? = some a) (hva : Vis sg a)
    (hG : GivesR X (k + 1) Ng x sg g cdv bg a (lamQ X) TT)
    (TB : TabB X.base X.mg c P) (hcode : X.env.code = .ref c) (hmT : (P, lamQ X) ∈ T) (hu : ∀ p ∈ T, p.1 = P → p.2 = lamQ X) (hr : Room (k + 2) X.A) (L : LamS X.env.scope scope) (hdef : defaultsOf params X.env = ([], []))
    (hbind : ∀ (q : Str) (cl : List (Str × Addr)) (pm cv ctv : Value), bindArgs (PySem.W.kla_fn "<lambda>" q params body scope cl pm cv ctv) ⟨[], []⟩ = pure [])
    (hbody : ∀ (A : Around) (outer : List Env) (s : Shared) (H : Hp) (E : XK) (f c' : Addr), Room k (A.deeper (lamEnv X scope s.heap.objs.size f c')) → PE (lamCx X A outer s H E scope f c') body (t E))
    (hdb : (x == ("__debug__" : Str)) = false := by decide) (hd : (a == ("__debug__" : Str)) = false := by decide) (hcd : (a == ("__classdict__" : Str)) = false := by decide) :
    PE X (.Call (.Name x p) [.Lambda params body scope lpos] [] pos) (tLam T TT t) := by
  constructor
  rintro pins s σ H Q I ⟨hT, h⟩
  refine wpAny_Call_Name_kw (ld_glob I hg hm ?_ hdb)
  refine PySem.W.callWith_K (h₀ := X.base) I.ok.mod.kin hk ?_ (by rfl) (by rfl)
  show wpAny _ _ (spliced ((false, eval (.Lambda params body scope lpos) X.env) :: backTo pos (starEach [] X.env))) _ _ s
  refine Calls.spliced_cons (lam_make2 I TB hcode hmT hu hT hdef (L.has I.ok) fun f c' pm' ctv H1 s' I1 eN T1 hf hfn hfr hco => ?_)
  refine Calls.spliced_nil ⟨I1.kIn, ?_⟩
  have rc : codeAny (model X.prog X.w) X.A (.call (.ref g) ⟨[.ref f], []⟩) (CR L2.CX0 X.stack X.prog X.w H1 s' Q L2.E0) s' := by
    refine run_ofS (N := Ng) (ps := [a]) (us := [.ref f]) (vs := [.ref f]) lk hcg Sg hr I1.env0 (hb s' [.ref f] I1.kIn rfl) (.cons rfl .nil) rfl ?_
    intro hr'
    obtain ⟨t', ht', hq'⟩ := hG f c' s' H1 Q (fun E H' Q' => t E σ H' Q') hr'
      (fun W pn xe E p1 p2 tk hW => pe_act (i := 0) I1 L hf hfn hfr (hbind _ _ _ _ _) tk hW hr' (fun A outer s H hr2 => hbody A outer s H E f c' hr2) hNg hva hd hcd) hco (h H1 eN T1)
    exact ⟨t', ht'.nox, hq'⟩
  refine wpAny_call (codeAny_mono rc ?_)
  rintro r s2 hq
  cases r with
  | error e => exact (show False from hq).elim
  | ok fl =>
    cases fl with
    | ret u => exact I1.after hq
    | next => exact False.elim hq
    | brk => exact False.elim hq
    | cont => exact False.elim hq
/-- l.count(x) of data -/
def rCountD (K : PySem.W.Frag) : V → List V → Hp → VK → Prop := fun x xs H Q => ∃ (a : Addr) (y : V) (d : PyData) (ds : List PyData), x = V.ref a ∧ xs = [y] ∧ Dp K H (V.ref a) (.list ds) ∧ Dp K H y d ∧
  SeqAt.shaped (.list ds) = true ∧ SeqAt.shaped d = true ∧ Q (.int (ds.countP fun z => PyData.eqv z d : Nat)) H
theorem mt_countD (hu : X.A.units + 65 < cLine) : MtR X "list.count" (rCountD X.K) := by
  intro pins s σ H x xs v us Q I rx rxs h
  obtain ⟨a, y, d, ds, rfl, rfl, hl, hy, sl, sd, q⟩ := h
  cases rx
  obtain ⟨uy, rfl, ry⟩ := rxs.one
  obtain ⟨bs, r1⟩ := Dp.reads I d y uy hy ry
  have hxs : PyData.canLayAll0 ds = true := SeqAt.canLay_of_shaped sl
  have hroom : X.A.units + 1 + min (PyData.depthAll ds) d.depth < cLine := room_in_shaped sd hu
  cases hl with
  | lst hs ha =>
    obtain ⟨its, rv, ⟨⟨cls, dd, data, sls⟩, n, ho, hc, hdn, hdt⟩, hlen⟩ := I.list hs
    simp only at hc hdt
    subst hc hdt
    obtain ⟨as, h4⟩ := Dp.readsAll I ds _ its ha rv
    have hmap : its.map (SeqAt.readOf s.heap) = ds := SeqAt.readsAll_map ds its as hxs h4
    refine call_meets PySem.F.slot_list_count ⟨_, ho, rfl⟩ PySem.F.entry_list_count (PySem.F.args_list_count_2 _ _)
      (SeqAt.list_countAt a its.toArray n dd sls uy (fun u => PyData.eqv (SeqAt.readOf s.heap u) d)) ⟨ho, SeqAt.items_eqAt (vs := its.toArray) (show ReadsAll s.heap its.toArray.toList ds as from h4) r1 hxs (SeqAt.canLay_of_shaped sd) hroom, ?_⟩
    have ec : its.toArray.toList.countP (fun u => PyData.eqv (SeqAt.readOf s.heap u) d) = ds.countP fun z => PyData.eqv z d := by
      rw [← hmap, List.countP_map]
      rfl
    refine ⟨.int (ds.countP fun z => PyData.eqv z d : Nat), H, I.tok _, ⟨s.toks, ?_⟩, q⟩
    show Value.int ((its.toArray.toList.countP (fun u => PyData.eqv (SeqAt.readOf s.heap u) d) : Nat) : Int) s.toks = Value.int ((ds.countP fun z => PyData.eqv z d : Nat) : Int) s.toks
    rw [ec]
end
end L2X
/-! zip over any number of iterators: one turn -/
namespace L2X
open PySem PySem.Spec PyProof.Rows L2
abbrev tupO (xs : List Value) : Obj := { cls := .type "tuple", data := .seq xs.toArray }
section
variable {x0 b0 : Value} {prog : Program} {w : World} {A : Around} {E : Value → Shared → Prop} {s : Shared} {z TI TO : Addr} {m i : Nat} {it : Nat → Addr} {fp : Nat → List Addr} {n : Nat → Nat} {Pv : Nat → Nat → Value → Prop} {St : Nat → Nat → Heap → Prop}
abbrev IsZ5 (h : Heap) (z TI TO : Addr) (x b : Value) : Prop := h.get? z = some { cls := .type "zip", dict := none, data := .fields #[x, b, .bool false, .ref TI, .ref TO], slots := #[] }
/-- the tuple given out before is free -/
def FreeT (prog : Program) (w : World) (A : Around) (z : Addr) (s : Shared) : Prop := ∀ (E : Value → Shared → Prop) (Q : Bool → Shared → Prop), Q true s → wpAny (model prog w) A (Builtin.SmallTypes.ownedTupleIsFree (.ref z)) Q E s
theorem free_none {b : Value} (hz : IsZ5 s.heap z TI TO .none b) : FreeT prog w A z s := fun E Q h => by
  unfold Builtin.SmallTypes.ownedTupleIsFree
  exact wpAny_bind (wpAny_field hz rfl (x := .none) rfl (wpAny_pure h))
theorem not_alive {a : Addr} {Q : Option Obj → Shared → Prop} (ho : s.heap.get? a = none) (h : Q none s) : wpAny (model prog w) A (loadIfAlive a) Q E s := by
  have h' : Q (s.heap.get? a) s := by rw [ho]; exact h
  exact fun _ _ _ => h'
theorem free_gone {T : Addr} {b : Value} (hz : IsZ5 s.heap z TI TO (rawInt T) b) (hT : s.heap.get? T = none) : FreeT prog w A z s := fun E Q h => by
  unfold Builtin.SmallTypes.ownedTupleIsFree
  refine wpAny_bind (wpAny_field hz rfl (x := rawInt T) rfl ?_)
  show wpAny _ _ (loadIfAlive ((T : Int).toNat) >>= _) _ _ _
  rw [Int.toNat_natCast]
  refine wpAny_bind (not_alive hT ?_)
  simp only [Option.isNone_none, if_true]
  exact wpAny_pure h
def itRefs (m : Nat) (it : Nat → Addr) : List Value := (List.range m).map fun k => Value.ref (it k)
structure SepN (m : Nat) (it : Nat → Addr) (fp : Nat → List Addr) (z TI TO : Addr) : Prop where
  TIz : TI ≠ z
  TOz : TO ≠ z
  TITO : TI ≠ TO
  TIi : ∀ k, k < m → TI ≠ it k
  mem : ∀ k, k < m → it k ∈ fp k
  zf : ∀ k, k < m → z ∉ fp k
  Tf : ∀ k, k < m → TO ∉ fp k
  sep : ∀ j k, j < m → k < m → j ≠ k → it j ∉ fp k
theorem SepN.zi (S : SepN m it fp z TI TO) {k : Nat} (h : k < m) : z ≠ it k := fun e => S.zf k h (by rw [e]; exact S.mem k h)
theorem SepN.Ti (S : SepN m it fp z TI TO) {k : Nat} (h : k < m) : TO ≠ it k := fun e => S.Tf k h (by rw [e]; exact S.mem k h)
/-- k of them have been drawn -/
structure Zst (b0 : Value) (m : Nat) (it : Nat → Addr) (Pv : Nat → Nat → Value → Prop) (St : Nat → Nat → Heap → Prop) (z TI TO : Addr) (i k : Nat) (xs : List Value) (h0 h : Heap) : Prop where
  zz : IsZ5 h z TI TO .ellipsis b0
  tt : h.get? TO = some (tupO xs)
  ln : xs.length = m
  lo : ∀ j v, j < k → xs[j]? = some v → Pv j i v
  s1 : ∀ j, j < k → j < m → St j (i + 1) h
  s2 : ∀ j, k ≤ j → j < m → St j i h
  sz : h.objs.size = h0.objs.size
  kp : ∀ c o, c ≠ z → c ≠ TO → (∀ j, j < m → c ≠ it j) → h0.get? c = some o → h.get? c = some o
theorem zipIdx_refs (m : Nat) (it : Nat → Addr) : (itRefs m it).toArray.toList.zipIdx = (List.range m).map fun k => (Value.ref (it k), k) := by
  apply List.ext_getElem
  · simp [itRefs]
  · intro k h1 h2
    simp [itRefs]
theorem zipN_next_item {xs0 : List Value} {Q : Value → Shared → Prop} (hm : 0 < m) (hm2 : m ≤ 1000) (S : SepN m it fp z TI TO) (D : ∀ k, k < m → Draws prog w A (it k) (fp k) (n k) (Pv k) (St k))
    (hz : IsZ5 s.heap z TI TO x0 b0) (hfr : FreeT prog w A z s) (hTI : s.heap.get? TI = some (tupO (itRefs m it))) (hTO : s.heap.get? TO = some (tupO xs0)) (hl : xs0.length = m) (st : ∀ k, k < m → St k i s.heap) (hlt : ∀ k, k < m → i < n k)
    (hQ : ∀ (xs : List Value) h' tk, xs.length = m → (∀ j v, xs[j]? = some v → Pv j i v) → IsZip h' z TI TO (rawInt s.heap.objs.size) → h'.get? TO = some (tupO xs) → (∀ k, k < m → St k (i + 1) h') → h'.get? s.heap.objs.size = some (tupO xs) → h'.objs.size = s.heap.objs.size + 1 →
      (∀ c o, c ≠ z → c ≠ TO → (∀ j, j < m → c ≠ it j) → s.heap.get? c = some o → h'.get? c = some o) → Q (.ref s.heap.objs.size) { s with heap := h', toks := tk }) :
    wpAny (model prog w) A (Builtin.«zip.__next__» ⟨[.ref z], []⟩) (fun fin s' => ∃ v, fin = .done (.ret v) ∧ Q v s') E s := by
  obtain ⟨hp, g, d, tk0, os⟩ := s
  have ne : (itRefs m it).toArray.isEmpty = false := by
    simp [itRefs]
    omega
  show wpAny _ _ (field (.ref z) 2 >>= _) _ _ _
  refine wpAny_bind (wpAny_field hz rfl (x := .bool false) rfl ?_)
  show wpAny _ _ (field (.ref z) 3 >>= _) _ _ _
  refine wpAny_bind (wpAny_field hz rfl (x := .ref TI) rfl ?_)
  refine wpAny_bind (wpAny_seqItems hTI rfl ?_)
  simp only [ne, Bool.false_eq_true, if_false]
  refine wpAny_bind ?_
  refine hfr _ _ ?_
  simp only [if_true]
  refine wpAny_bind (wpAny_rule ?_)
  refine wpAny_bind (wpAny_field hz rfl (x := .ref TO) rfl ?_)
  refine wpAny_bind (wpAny_setField_rec hz (by simp) fun g0 hz0 hs0 => ?_)
  refine wpAny_bind ?_
  rw [zipIdx_refs]
  refine wpAny_forIn_list _ (fun rest b s' => b.1 = none ∧ ∃ (k : Nat) (xs : List Value) (h' : Heap) (tk : Nat), s' = ⟨h', g, d, tk, os⟩ ∧ k ≤ m ∧ rest = ((List.range m).map fun k => (Value.ref (it k), k)).drop k ∧ Zst b0 m it Pv St z TI TO i k xs hp h') _ ?_ ?_ _ _ ⟨rfl, 0, xs0, g0, tk0, rfl, Nat.zero_le _, rfl, ?_⟩
  · rintro ⟨v, j⟩ rest ⟨b1, b2⟩ s' ⟨hb, k, xs, h', tk, rfl, hk, hr, Z⟩
    have hb' : b1 = none := hb
    subst hb'
    have hkm : k < m := by
      rcases Nat.lt_or_ge k m with q | q
      · exact q
      · rw [List.drop_eq_nil_of_le (by simp; exact q)] at hr
        cases hr
    have hd : ((List.range m).map fun k => (Value.ref (it k), k)).drop k = (Value.ref (it k), k) :: ((List.range m).map fun k => (Value.ref (it k), k)).drop (k + 1) := by
      rw [List.drop_eq_getElem_cons (by simp; exact hkm)]
      simp
    rw [hd] at hr
    have e1 := (List.cons.inj hr).1
    have e2 := (List.cons.inj hr).2
    have ev : v = Value.ref (it k) := congrArg Prod.fst e1
    have ej : j = k := congrArg Prod.snd e1
    subst ev
    subst ej
    refine wpAny_bind (wpAny_onRaise ?_)
    show wpAny _ _ (Builtin.SmallTypes.nextOf (.ref (it j)) >>= _) _ _ ⟨h', g, d, tk, os⟩
    refine wpAny_bind ((D j hkm).item i _ _ _ (hlt j hkm) (Z.s2 j (Nat.le_refl _) hkm) fun x p tk' hx sn hp' => wpAny_pure ?_)
    replace hp' : Heap.SameBut (it j) h' p := hp'
    have hU : p.get? TO = some (tupO xs) := hp'.extBut _ _ (S.Ti hkm) Z.tt
    refine wpAny_bind (wpAny_seqItems (s := ⟨p, g, d, tk', os⟩) hU rfl ?_)
    have zl : xs.length ≤ sizeLine := by
      rw [Z.ln]
      exact Nat.le_of_lt (small1000 hm2)
    have z1 : xs.toArray.size ≤ sizeLine := by
      rw [List.size_toArray]
      exact zl
    have z2 : (xs.toArray.setIfInBounds j x).size ≤ sizeLine + 1 := by
      rw [Array.size_setIfInBounds]
      omega
    refine wpAny_bind (wpAny_updateSeq (s := ⟨p, g, d, tk', os⟩) hU rfl ?_ z1 z2)
    have hs1 : Heap.SameBut TO p (p.update TO (Obj.mapSeq (·.setIfInBounds j x))) := Heap.SameBut.update ..
    have hT1 : (p.update TO (Obj.mapSeq (·.setIfInBounds j x))).get? TO = some (tupO (xs.set j x)) := by
      rw [Heap.get?_update_self _ hU rfl]
      simp [Obj.mapSeq]
    generalize p.update TO (Obj.mapSeq (·.setIfInBounds j x)) = g1 at hs1 hT1
    refine wpAny_bind (wpAny_letGo (wpAny_pure ?_))
    refine ⟨rfl, j + 1, xs.set j x, g1, tk', rfl, hkm, e2, ?_⟩
    have keep : ∀ c o, c ≠ TO → c ≠ it j → h'.get? c = some o → g1.get? c = some o := fun c o c1 c2 e => hs1.extBut _ _ c1 (hp'.extBut _ _ c2 e)
    refine ⟨?_, hT1, ?_, fun q v hq hv => ?_, fun q hq hqm => ?_, fun q hq hqm => ?_, ?_, fun c o c1 c2 c3 e => ?_⟩
    · exact keep _ _ S.TOz.symm (S.zi hkm) Z.zz
    · rw [List.length_set, Z.ln]
    · by_cases eq : q = j
      · subst eq
        rw [List.getElem?_set_self (by rw [Z.ln]; exact hkm)] at hv
        cases hv
        exact hx
      · rw [List.getElem?_set_ne (Ne.symm eq)] at hv
        exact Z.lo q v (by omega) hv
    · by_cases eq : q = j
      · subst eq
        exact (D q hqm).frame _ _ _ sn fun b hb o e => hs1.extBut _ _ (fun z => S.Tf q hqm (z ▸ hb)) e
      · exact (D q hqm).frame _ _ _ (Z.s1 q (by omega) hqm) fun b hb o e => keep b o (fun z => S.Tf q hqm (z ▸ hb)) (fun z => S.sep j q hkm hqm (fun y => eq y.symm) (z ▸ hb)) e
    · exact (D q hqm).frame _ _ _ (Z.s2 q (by omega) hqm) fun b hb o e => keep b o (fun z => S.Tf q hqm (z ▸ hb)) (fun z => S.sep j q hkm hqm (by omega) (z ▸ hb)) e
    · rw [hs1.1, hp'.1, Z.sz]
    · exact keep c o c2 (c3 j hkm) (Z.kp c o c1 c2 c3 e)
  · rintro ⟨b1, b2⟩ s' ⟨hb, k, xs, h', tk, rfl, hk, hr, Z⟩
    have hb' : b1 = none := hb
    subst hb'
    have hkm : k = m := by
      rcases Nat.lt_or_ge k m with q | q
      · rw [List.drop_eq_getElem_cons (by simp; exact q)] at hr
        cases hr
      · omega
    subst hkm
    have zl : xs.length ≤ sizeLine := by
      rw [Z.ln]
      exact Nat.le_of_lt (small1000 hm2)
    refine wpAny_bind (wpAny_seqItems (s := ⟨h', g, d, tk, os⟩) Z.tt rfl ?_)
    refine wpAny_bind (wpAny_newTuple ?_ (by simpa using zl))
    have hzlt : z < h'.objs.size := Heap.lt_size Z.zz
    show wpAny _ _ (Builtin.SmallTypes.ownedTupleHandOut (.ref z) (.ref h'.objs.size) >>= _) _ _ ⟨h'.push (tupO xs), g, d, tk, os⟩
    refine wpAny_bind ?_
    unfold Builtin.SmallTypes.ownedTupleHandOut
    have hz6 : IsZ5 (h'.push (tupO xs)) z TI TO .ellipsis b0 := Heap.get?_push_of_some _ Z.zz
    refine wpAny_bind (wpAny_setField_rec hz6 (by simp) fun h7 hz7 hs7 => ?_)
    replace hz7 : IsZ5 h7 z TI TO (rawInt h'.objs.size) b0 := hz7
    refine wpAny_setField_rec hz7 (by simp) fun h8 hz8 hs8 => ?_
    replace hz8 : IsZip h8 z TI TO (rawInt h'.objs.size) := hz8
    replace hs7 : Heap.SameBut z (h'.push (tupO xs)) h7 := hs7
    replace hs8 : Heap.SameBut z h7 h8 := hs8
    have up : ∀ c o, c ≠ z → h'.get? c = some o → h8.get? c = some o := fun c o c1 e => hs8.extBut _ _ c1 (hs7.extBut _ _ c1 (Heap.get?_push_of_some _ e))
    have hT8 : h8.get? h'.objs.size = some (tupO xs) := hs8.extBut _ _ (Nat.ne_of_gt hzlt) (hs7.extBut _ _ (Nat.ne_of_gt hzlt) (Heap.get?_push_size _ rfl))
    have hz8s : h8.objs.size = h'.objs.size + 1 := by rw [hs8.1, hs7.1, Heap.size_push]
    rw [Z.sz] at hz8 hT8 hz8s
    refine wpAny_pure ⟨_, rfl, ?_⟩
    show Q (.ref h'.objs.size) ⟨h8, g, d, tk, os⟩
    rw [Z.sz]
    exact hQ xs h8 tk Z.ln (fun j v hv => Z.lo j v (by rw [← Z.ln]; exact (List.getElem?_eq_some_iff.mp hv).1) hv) hz8 (up _ _ S.TOz Z.tt) (fun q hq => (D q hq).frame _ _ _ (Z.s1 q hq hq) fun b hb o e => up b o (fun y => S.zf q hq (y ▸ hb)) e) hT8 hz8s fun c o c1 c2 c3 e => up c o c1 (Z.kp c o c1 c2 c3 e)
  · refine ⟨hz0, hs0.extBut _ _ S.TOz hTO, hl, fun j v h => absurd h (Nat.not_lt_zero _), fun j h => absurd h (Nat.not_lt_zero _), fun j _ hj => (D j hj).over (st j hj) hs0 (S.zf j hj), hs0.1, fun c o c1 c2 c3 e => hs0.extBut _ _ c1 e⟩
/-- the first of them is at its end -/
theorem zipN_next_end {xs0 : List Value} {Q : PySem.Fin → Shared → Prop} (hm : 0 < m) (S : SepN m it fp z TI TO) (D : ∀ k, k < m → Draws prog w A (it k) (fp k) (n k) (Pv k) (St k))
    (hz : IsZ5 s.heap z TI TO x0 b0) (hfr : FreeT prog w A z s) (hTI : s.heap.get? TI = some (tupO (itRefs m it))) (hTO : s.heap.get? TO = some (tupO xs0)) (st : ∀ k, k < m → St k i s.heap) (hend : i = n 0)
    (hE : ∀ h' tk e, (∀ c o, c ≠ z → c ≠ TO → (∀ j, j < m → c ≠ it j) → s.heap.get? c = some o → h'.get? c = some o) → (∃ o, h'.get? e = some o ∧ o.cls = .type "StopIteration") → E (.ref e) { s with heap := h', toks := tk }) :
    wpAny (model prog w) A (Builtin.«zip.__next__» ⟨[.ref z], []⟩) Q E s := by
  obtain ⟨hp, g, d, tk0, os⟩ := s
  have ne : (itRefs m it).toArray.isEmpty = false := by
    simp [itRefs]
    omega
  show wpAny _ _ (field (.ref z) 2 >>= _) _ _ _
  refine wpAny_bind (wpAny_field hz rfl (x := .bool false) rfl ?_)
  show wpAny _ _ (field (.ref z) 3 >>= _) _ _ _
  refine wpAny_bind (wpAny_field hz rfl (x := .ref TI) rfl ?_)
  refine wpAny_bind (wpAny_seqItems hTI rfl ?_)
  simp only [ne, Bool.false_eq_true, if_false]
  refine wpAny_bind ?_
  refine hfr _ _ ?_
  simp only [if_true]
  refine wpAny_bind (wpAny_rule ?_)
  refine wpAny_bind (wpAny_field hz rfl (x := .ref TO) rfl ?_)
  refine wpAny_bind (wpAny_setField_rec hz (by simp) fun g0 hz0 hs0 => ?_)
  replace hz0 : IsZ5 g0 z TI TO .ellipsis b0 := hz0
  replace hs0 : Heap.SameBut z hp g0 := hs0
  refine wpAny_bind ?_
  rw [zipIdx_refs]
  have hd : (List.range m).map (fun k => (Value.ref (it k), k)) = (Value.ref (it 0), 0) :: ((List.range m).map fun k => (Value.ref (it k), k)).drop 1 := by
    have := List.drop_eq_getElem_cons (l := (List.range m).map fun k => (Value.ref (it k), k)) (i := 0) (by simp; exact hm)
    rw [List.drop_zero] at this
    rw [this]
    simp
  rw [hd, List.forIn_cons]
  refine wpAny_bind (wpAny_bind (wpAny_onRaise ?_))
  show wpAny _ _ (Builtin.SmallTypes.nextOf (.ref (it 0)) >>= _) _ _ ⟨g0, g, d, tk0, os⟩
  refine wpAny_bind ((D 0 hm).done ⟨g0, g, d, tk0, os⟩ _ _ (by rw [← hend]; exact (D 0 hm).over (st 0 hm) hs0 (S.zf 0 hm)) fun q e hq he => ?_)
  replace hq : Heap.ExtBut (it 0) g0 q := hq
  obtain ⟨oe, hoe, hce⟩ := he
  replace hoe : q.get? e = some oe := hoe
  have hzq : IsZ5 q z TI TO .ellipsis b0 := hq _ _ (S.zi hm) hz0
  have hez : e ≠ z := fun x => by
    subst x
    rw [hzq] at hoe
    cases hoe
    simp at hce
  refine wpAny_setField_rec (s := ⟨q, g, d, tk0, os⟩) hzq (by simp) fun q' _ hq' => ?_
  replace hq' : Heap.SameBut z q q' := hq'
  exact hE q' tk0 e (fun c o cz cT c1 x => hq'.extBut _ _ cz (hq _ _ (c1 0 hm) (hs0.extBut _ _ cz x))) ⟨oe, hq'.extBut _ _ hez hoe, hce⟩
theorem pyNext_zipN_item {xs0 : List Value} {Q : Option Value → Shared → Prop} (hm : 0 < m) (hm2 : m ≤ 1000) (S : SepN m it fp z TI TO) (D : ∀ k, k < m → Draws prog w A.in1 (it k) (fp k) (n k) (Pv k) (St k))
    (hz : IsZ5 s.heap z TI TO x0 b0) (hfr : FreeT prog w A.in1 z s) (hTI : s.heap.get? TI = some (tupO (itRefs m it))) (hTO : s.heap.get? TO = some (tupO xs0)) (hl : xs0.length = m) (st : ∀ k, k < m → St k i s.heap) (hlt : ∀ k, k < m → i < n k)
    (hQ : ∀ (xs : List Value) h' tk, xs.length = m → (∀ j v, xs[j]? = some v → Pv j i v) → IsZip h' z TI TO (rawInt s.heap.objs.size) → h'.get? TO = some (tupO xs) → (∀ k, k < m → St k (i + 1) h') → h'.get? s.heap.objs.size = some (tupO xs) → h'.objs.size = s.heap.objs.size + 1 →
      (∀ c o, c ≠ z → c ≠ TO → (∀ j, j < m → c ≠ it j) → s.heap.get? c = some o → h'.get? c = some o) → Q (some (.ref s.heap.objs.size)) { s with heap := h', toks := tk }) :
    wpAny (model prog w) A (pyNext (.ref z)) Q E s := by
  have hT : s.TypeIs (.ref z) "zip" := ⟨_, hz, rfl⟩
  unfold pyNext
  exact wpAny_bind (wpAny_attempt (wpAny_callSpecial?_slot (name := Str.ofString "__next__") hT PySem.F.slot_zip_next
    (wpAny_call_entry PySem.F.slot_zip_next hT PySem.F.entry_zip_next
      (zipN_next_item hm hm2 S D hz hfr hTI hTO hl st hlt fun xs h' tk y1 y2 b1 b2 d1 b5 b6 b7 => wpAny_pure (hQ xs h' tk y1 y2 b1 b2 d1 b5 b6 b7)) (PySem.F.args_zip_next_1 _))))
theorem pyNext_zipN_end {xs0 : List Value} {Q : Option Value → Shared → Prop} (hm : 0 < m) (S : SepN m it fp z TI TO) (D : ∀ k, k < m → Draws prog w A.in1 (it k) (fp k) (n k) (Pv k) (St k))
    (hz : IsZ5 s.heap z TI TO x0 b0) (hfr : FreeT prog w A.in1 z s) (hTI : s.heap.get? TI = some (tupO (itRefs m it))) (hTO : s.heap.get? TO = some (tupO xs0)) (st : ∀ k, k < m → St k i s.heap) (hend : i = n 0)
    (hQ : ∀ h' tk, (∀ c o, c ≠ z → c ≠ TO → (∀ j, j < m → c ≠ it j) → s.heap.get? c = some o → h'.get? c = some o) → Q none { s with heap := h', toks := tk }) : wpAny (model prog w) A (pyNext (.ref z)) Q E s := by
  have hT : s.TypeIs (.ref z) "zip" := ⟨_, hz, rfl⟩
  unfold pyNext
  refine wpAny_bind (wpAny_attempt (wpAny_callSpecial?_slot (name := Str.ofString "__next__") hT PySem.F.slot_zip_next
    (wpAny_call_entry PySem.F.slot_zip_next hT PySem.F.entry_zip_next (zipN_next_end hm S D hz hfr hTI hTO st hend fun h' tk e hk he => ?_) (PySem.F.args_zip_next_1 _))))
  obtain ⟨o, ho, hc⟩ := he
  refine wpAny_bind (wpAny_isInstance (T := "StopIteration") (b := true) ⟨o, ho, hc⟩ isSubtype_stop ?_)
  exact wpAny_pure (hQ _ _ hk)
end
end L2X
/-! zip of any number of things: it begins -/
namespace L2X
open PySem PySem.Spec PyProof.Rows L2
def pushAll (h : Heap) (os : List Obj) : Heap := os.foldl (fun h o => h.push o) h
theorem pushAll_size : ∀ (os : List Obj) (h : Heap), (pushAll h os).objs.size = h.objs.size + os.length
  | [], h => rfl
  | o :: os, h => by
    have e : pushAll h (o :: os) = pushAll (h.push o) os := rfl
    rw [e, pushAll_size os, Heap.size_push, List.length_cons]
    omega
theorem pushAll_snoc (h : Heap) (os : List Obj) (o : Obj) : pushAll h (os ++ [o]) = (pushAll h os).push o := by
  unfold pushAll
  rw [List.foldl_append]
  rfl
theorem pushAll_keep : ∀ (os : List Obj) {h : Heap} {b : Addr} {o : Obj}, h.get? b = some o → (pushAll h os).get? b = some o
  | [], _, _, _, e => e
  | _ :: os, _, _, _, e => pushAll_keep os (Heap.get?_push_of_some _ e)
theorem pushAll_get : ∀ (os : List Obj) (h : Heap) (k : Nat) (o : Obj), os[k]? = some o → o.isFreed = false → (pushAll h os).get? (h.objs.size + k) = some o
  | [], _, _, _, e, _ => nomatch e
  | p :: os, h, 0, o, e, f => by
    cases e
    exact pushAll_keep os (Heap.get?_push_size _ f)
  | p :: os, h, k + 1, o, e, f => by
    have q := pushAll_get os (h.push p) k o e f
    rw [Heap.size_push] at q
    have e2 : h.objs.size + (k + 1) = h.objs.size + 1 + k := by omega
    rw [e2]
    exact q
def newRefs (N k : Nat) : List Value := (List.range k).map fun j => Value.ref (N + j)
section
variable {prog : Program} {w : World} {A : Around} {E : Value → Shared → Prop} {s : Shared}
theorem iterAll_begins {l : List (Value × Obj)} (B : ∀ p ∈ l, Begins p.1 p.2 fun _ => True) {Q : List Value → Shared → Prop} (h : Q (newRefs s.heap.objs.size l.length) { s with heap := pushAll s.heap (l.map (·.2)) }) :
    wpAny (model prog w) A (Builtin.SmallTypes.iterAll (l.map (·.1))) Q E s := by
  unfold Builtin.SmallTypes.iterAll
  refine wpAny_bind (wpAny_forIn_list _ (fun rest (b : Array Value) s' => ∃ k, k ≤ l.length ∧ rest = (l.map (·.1)).drop k ∧ b = (newRefs s.heap.objs.size k).toArray ∧ s' = { s with heap := pushAll s.heap ((l.map (·.2)).take k) }) _ ?_ ?_ _ _ ⟨0, Nat.zero_le _, rfl, rfl, rfl⟩)
  · rintro x rest b s' ⟨k, hk, hr, rfl, rfl⟩
    have hkl : k < l.length := by
      rcases Nat.lt_or_ge k l.length with q | q
      · exact q
      · rw [List.drop_eq_nil_of_le (by simpa using q)] at hr
        cases hr
    have hd : (l.map (·.1)).drop k = l[k].1 :: (l.map (·.1)).drop (k + 1) := by
      rw [List.drop_eq_getElem_cons (by simpa using hkl)]
      simp
    rw [hd] at hr
    have e1 := (List.cons.inj hr).1
    have e2 := (List.cons.inj hr).2
    subst e1
    refine wpAny_bind (wpAny_holding ?_)
    refine (B l[k] (List.getElem_mem hkl)).iter _ _ _ _ _ _ trivial ?_
    refine wpAny_pure ⟨k + 1, hkl, e2, ?_, ?_⟩
    · show (newRefs s.heap.objs.size k).toArray.push (.ref (pushAll s.heap ((l.map (·.2)).take k)).objs.size) = _
      rw [pushAll_size, List.length_take, List.length_map, Nat.min_eq_left hk]
      unfold newRefs
      rw [List.range_succ, List.map_append]
      simp
    · have ek : (l.map (·.2))[k]? = some l[k].2 := by simp [hkl]
      have : (l.map (·.2)).take (k + 1) = (l.map (·.2)).take k ++ [l[k].2] := by
        rw [List.take_add_one, ek]
        rfl
      rw [this, pushAll_snoc]
  · rintro b s' ⟨k, hk, hr, rfl, rfl⟩
    have hkl : k = l.length := by
      rcases Nat.lt_or_ge k l.length with q | q
      · rw [List.drop_eq_getElem_cons (by simpa using q)] at hr
        cases hr
      · omega
    subst hkl
    refine wpAny_pure ?_
    have : (l.map (·.2)).take l.length = l.map (·.2) := List.take_of_length_le (by simp)
    rw [this]
    simpa using h
end
/-- where zip(v1, .., vm) begins -/
abbrev gzTN (h : Heap) (os : List Obj) : Heap := (pushAll h os).push (tupO (newRefs h.objs.size os.length))
abbrev gzON (h : Heap) (os : List Obj) : Heap := (gzTN h os).push (tupO (List.replicate os.length .none))
abbrev gzZN (h : Heap) (os : List Obj) : Heap := (gzON h os).push { cls := .type "zip", data := .fields #[.none, .bool false, .bool false, .ref (pushAll h os).objs.size, .ref (gzTN h os).objs.size] }
theorem meets_zip_newN {l : List (Value × Obj)} (hl : l.length ≤ 1000) (B : ∀ p ∈ l, Begins p.1 p.2 fun _ => True) :
    Meets (Builtin.«zip.__new__» ⟨.type "zip" :: l.map (·.1), []⟩) (fun _ R s =>
      R (.ok (.ret (.ref (gzON s.heap (l.map (·.2))).objs.size))) { s with heap := gzZN s.heap (l.map (·.2)) }) :=
  .of_wp fun prog w A R s h => by
    obtain ⟨hp, g, d, tk, os⟩ := s
    have hsub := sub_zip
    have q1 : ∀ {A' : Around} {E : Value → Shared → Prop} {Q : List Value → Shared → Prop}, Q (newRefs hp.objs.size l.length) ⟨pushAll hp (l.map (·.2)), g, d, tk, os⟩ → wpAny (model prog w) A' (Builtin.SmallTypes.iterAll (l.map (·.1))) Q E ⟨hp, g, d, tk, os⟩ :=
      fun q => iterAll_begins (s := ⟨hp, g, d, tk, os⟩) B q
    have len : (newRefs hp.objs.size l.length).length = l.length := by simp [newRefs]
    have z1 : (newRefs hp.objs.size l.length).length ≤ sizeLine := by
      rw [len]
      exact Nat.le_of_lt (small1000 hl)
    have q2 : ∀ {A' : Around} {E : Value → Shared → Prop} {Q : Value → Shared → Prop} {s : Shared}, Q (.ref s.heap.objs.size) { s with heap := s.heap.push (tupO (newRefs hp.objs.size l.length)) } → wpAny (model prog w) A' (newTuple (newRefs hp.objs.size l.length)) Q E s :=
      fun q => wpAny_newTuple q (by simpa using z1)
    have en : (newRefs hp.objs.size l.length).map (fun _ => Value.none) = List.replicate l.length .none := by
      rw [List.map_const', len]
    have q3 : ∀ {A' : Around} {E : Value → Shared → Prop} {Q : Value → Shared → Prop} {s : Shared}, Q (.ref s.heap.objs.size) { s with heap := s.heap.push (tupO (List.replicate l.length .none)) } → wpAny (model prog w) A' (newTuple ((newRefs hp.objs.size l.length).map (fun _ => Value.none))) Q E s :=
      fun q => by
        rw [en]
        exact wpAny_newTuple q (by simp; exact Nat.le_of_lt (small1000 hl))
    wp_walk using q1, q2, q3
    refine ⟨_, rfl, ?_⟩
    have e : (l.map (·.2)).length = l.length := List.length_map _
    unfold gzZN gzON gzTN at h
    rw [e] at h
    exact h
theorem zt1 (r : List Value) : checkTypeCall "zip" ⟨r, []⟩ = pure () := by kernel_rfl
theorem zt2 (a : Value) (r : List Value) : checkBuiltinCall "zip.__new__" ⟨.type "zip" :: a :: r, []⟩ = pure () := by kernel_rfl
theorem zt3 (obj : Value) (r : List Value) : argsOk "object.__init__" ⟨obj :: r, []⟩ := by
  unfold argsOk
  kernel_rfl
section
variable {prog : Program} {w : World} {A : Around} {E : Value → Shared → Prop} {s : Shared}
/-- zip of many: its new cells -/
theorem zip_beginsN {l : List (Value × Obj)} {Q : Value → Shared → Prop} (hl0 : 0 < l.length) (hl : l.length ≤ 1000) (B : ∀ p ∈ l, Begins p.1 p.2 fun _ => True)
    (h : ∀ h', IsZip h' (s.heap.objs.size + l.length + 2) (s.heap.objs.size + l.length) (s.heap.objs.size + l.length + 1) .none → h'.get? (s.heap.objs.size + l.length) = some (tupO (newRefs s.heap.objs.size l.length)) →
      h'.get? (s.heap.objs.size + l.length + 1) = some (tupO (List.replicate l.length .none)) → (∀ k p, l[k]? = some p → h'.get? (s.heap.objs.size + k) = some p.2) → h'.objs.size = s.heap.objs.size + l.length + 3 →
      (∀ c o, s.heap.get? c = some o → h'.get? c = some o) → Q (.ref (s.heap.objs.size + l.length + 2)) { s with heap := h' }) :
    wpAny (model prog w) A (call (.type "zip") (l.map (·.1))) Q E s := by
  have hn : checkBuiltinCall "zip.__new__" ⟨.type "zip" :: l.map (·.1), []⟩ = pure () := by
    cases l with
    | nil => exact absurd hl0 (Nat.lt_irrefl _)
    | cons p r => exact zt2 _ _
  refine callType_new PySem.F.called_zip (by decide) (zt1 _) hn (fun obj => zt3 obj _) PySem.F.entry_zip_new (meets_zip_newN hl B) ?_
  have e : (l.map (·.2)).length = l.length := List.length_map _
  have z0 : (pushAll s.heap (l.map (·.2))).objs.size = s.heap.objs.size + l.length := by rw [pushAll_size, e]
  have zT : (gzTN s.heap (l.map (·.2))).objs.size = s.heap.objs.size + l.length + 1 := by rw [Heap.size_push, z0]
  have zO : (gzON s.heap (l.map (·.2))).objs.size = s.heap.objs.size + l.length + 2 := by rw [Heap.size_push, zT]
  have zZ : (gzZN s.heap (l.map (·.2))).objs.size = s.heap.objs.size + l.length + 3 := by rw [Heap.size_push, zO]
  have gZ : (gzZN s.heap (l.map (·.2))).get? (gzON s.heap (l.map (·.2))).objs.size = some { cls := .type "zip", data := .fields #[.none, .bool false, .bool false, .ref (pushAll s.heap (l.map (·.2))).objs.size, .ref (gzTN s.heap (l.map (·.2))).objs.size] } := Heap.get?_push_size _ rfl
  have gO : (gzZN s.heap (l.map (·.2))).get? (gzTN s.heap (l.map (·.2))).objs.size = some (tupO (List.replicate (l.map (·.2)).length .none)) := Heap.get?_push_of_some _ (Heap.get?_push_size _ rfl)
  have gT : (gzZN s.heap (l.map (·.2))).get? (pushAll s.heap (l.map (·.2))).objs.size = some (tupO (newRefs s.heap.objs.size (l.map (·.2)).length)) := Heap.get?_push_of_some _ (Heap.get?_push_of_some _ (Heap.get?_push_size _ rfl))
  have gk : ∀ k p, l[k]? = some p → (gzZN s.heap (l.map (·.2))).get? (s.heap.objs.size + k) = some p.2 := fun k p hp =>
    Heap.get?_push_of_some _ (Heap.get?_push_of_some _ (Heap.get?_push_of_some _ (pushAll_get _ _ k p.2 (by rw [List.getElem?_map, hp]; rfl) (B p (List.mem_of_getElem? hp)).free)))
  rw [zO, zT, z0] at gZ
  rw [zT, e] at gO
  rw [z0, e] at gT
  show _ ∧ _
  rw [zO]
  exact ⟨⟨_, gZ, rfl⟩, h _ gZ gT gO gk zZ fun c o q => Heap.get?_push_of_some _ (Heap.get?_push_of_some _ (Heap.get?_push_of_some _ (pushAll_keep _ q)))⟩
end
end L2X
/-! zip over any number of iterators: a turn while the tuple given out before is held -/
namespace L2X
open PySem PySem.Spec PyProof.Rows L2
section
variable {prog : Program} {w : World} {A : Around} {E : Value → Shared → Prop} {s : Shared} {z TI TO T : Addr} {m i : Nat} {it : Nat → Addr} {fp : Nat → List Addr} {n : Nat → Nat} {Pv : Nat → Nat → Value → Prop} {St : Nat → Nat → Heap → Prop} {oT : Obj} {f : Bool}
structure Hst (m : Nat) (it : Nat → Addr) (Pv : Nat → Nat → Value → Prop) (St : Nat → Nat → Heap → Prop) (z TI TO T : Addr) (i k : Nat) (xs : List Value) (h0 h : Heap) : Prop where
  zz : IsZipHeld h z TI TO T true
  ln : xs.length = k
  lo : ∀ j v, xs[j]? = some v → Pv j i v
  s1 : ∀ j, j < k → j < m → St j (i + 1) h
  s2 : ∀ j, k ≤ j → j < m → St j i h
  sz : h.objs.size = h0.objs.size
  kp : ∀ c o, c ≠ z → (∀ j, j < m → c ≠ it j) → h0.get? c = some o → h.get? c = some o
theorem zipN_next_held {Q : Value → Shared → Prop} (hm : 0 < m) (hm2 : m ≤ 1000) (S : SepN m it fp z TI TO) (D : ∀ k, k < m → Draws prog w A (it k) (fp k) (n k) (Pv k) (St k))
    (hz : IsZipHeld s.heap z TI TO T f) (hT : s.heap.get? T = some oT) (hTI : s.heap.get? TI = some (tupO (itRefs m it))) (st : ∀ k, k < m → St k i s.heap) (hlt : ∀ k, k < m → i < n k)
    (hQ : ∀ (xs : List Value) h' tk, xs.length = m → (∀ j v, xs[j]? = some v → Pv j i v) → IsZipHeld h' z TI TO T true → (∀ k, k < m → St k (i + 1) h') → h'.get? s.heap.objs.size = some (tupO xs) → h'.objs.size = s.heap.objs.size + 1 →
      (∀ c o, c ≠ z → (∀ j, j < m → c ≠ it j) → s.heap.get? c = some o → h'.get? c = some o) → Q (.ref s.heap.objs.size) { s with heap := h', toks := tk }) :
    wpAny (model prog w) A (Builtin.«zip.__next__» ⟨[.ref z], []⟩) (fun fin s' => ∃ v, fin = .done (.ret v) ∧ Q v s') E s := by
  obtain ⟨hp, g, d, tk0, os⟩ := s
  have ne : (itRefs m it).toArray.isEmpty = false := by
    simp [itRefs]
    omega
  show wpAny _ _ (field (.ref z) 2 >>= _) _ _ _
  refine wpAny_bind (wpAny_field hz rfl (x := .bool false) rfl ?_)
  show wpAny _ _ (field (.ref z) 3 >>= _) _ _ _
  refine wpAny_bind (wpAny_field hz rfl (x := .ref TI) rfl ?_)
  refine wpAny_bind (wpAny_seqItems hTI rfl ?_)
  simp only [ne, Bool.false_eq_true, if_false]
  refine wpAny_bind (wpAny_tupleHeld_zip hz hT fun g0 hz0 hs0 => ?_)
  simp only [Bool.false_eq_true, if_false]
  refine wpAny_bind ?_
  rw [← Array.forIn_toList]
  refine wpAny_forIn_list _ (fun rest b s' => b.1 = none ∧ ∃ (k : Nat) (xs : List Value) (h' : Heap) (tk : Nat), s' = ⟨h', g, d, tk, os⟩ ∧ k ≤ m ∧ rest = (itRefs m it).drop k ∧ b.2 = xs.toArray ∧ Hst m it Pv St z TI TO T i k xs hp h') _ ?_ ?_ _ _ ⟨rfl, 0, [], g0, tk0, rfl, Nat.zero_le _, by simp, rfl, ?_⟩
  · rintro v rest ⟨b1, b2⟩ s' ⟨hb, k, xs, h', tk, rfl, hk, hr, hx2, Z⟩
    have hb' : b1 = none := hb
    have hx2' : b2 = xs.toArray := hx2
    subst hb'
    subst hx2'
    have hlen : (itRefs m it).length = m := by simp [itRefs]
    have hkm : k < m := by
      rcases Nat.lt_or_ge k m with q | q
      · exact q
      · rw [List.drop_eq_nil_of_le (by rw [hlen]; exact q)] at hr
        cases hr
    have hd : (itRefs m it).drop k = Value.ref (it k) :: (itRefs m it).drop (k + 1) := by
      rw [List.drop_eq_getElem_cons (by rw [hlen]; exact hkm)]
      simp [itRefs]
    rw [hd] at hr
    have e1 := (List.cons.inj hr).1
    have e2 := (List.cons.inj hr).2
    subst e1
    refine wpAny_bind (wpAny_holding ?_)
    show wpAny _ _ (Builtin.SmallTypes.nextOf (.ref (it k)) >>= _) _ _ ⟨h', g, d, tk, os⟩
    refine wpAny_bind ((D k hkm).item i _ _ _ (hlt k hkm) (Z.s2 k (Nat.le_refl _) hkm) fun x p tk' hx sn hp' => wpAny_pure ?_)
    replace hp' : Heap.SameBut (it k) h' p := hp'
    refine wpAny_pure ?_
    refine ⟨rfl, k + 1, xs ++ [x], p, tk', rfl, hkm, e2, by simp, ?_⟩
    refine ⟨hp'.extBut _ _ (S.zi hkm) Z.zz, by rw [List.length_append, Z.ln]; rfl, fun q v hv => ?_, fun q hq hqm => ?_, fun q hq hqm => ?_, by rw [hp'.1, Z.sz], fun c o c1 c3 e => hp'.extBut _ _ (c3 k hkm) (Z.kp c o c1 c3 e)⟩
    · by_cases hqk : q < xs.length
      · rw [List.getElem?_append_left hqk] at hv
        exact Z.lo q v hv
      · have hq2 : q = xs.length := by
          have := (List.getElem?_eq_some_iff.mp hv).1
          rw [List.length_append, List.length_singleton] at this
          omega
        subst hq2
        rw [List.getElem?_concat_length] at hv
        cases hv
        rw [Z.ln]
        exact hx
    · by_cases eq : q = k
      · subst eq
        exact sn
      · exact (D q hqm).frame _ _ _ (Z.s1 q (by omega) hqm) fun b hb o e => hp'.extBut _ _ (fun y => S.sep k q hkm hqm (fun r => eq r.symm) (y ▸ hb)) e
    · exact (D q hqm).frame _ _ _ (Z.s2 q (by omega) hqm) fun b hb o e => hp'.extBut _ _ (fun y => S.sep k q hkm hqm (by omega) (y ▸ hb)) e
  · rintro ⟨b1, b2⟩ s' ⟨hb, k, xs, h', tk, rfl, hk, hr, hx2, Z⟩
    have hb' : b1 = none := hb
    have hx2' : b2 = xs.toArray := hx2
    subst hb'
    subst hx2'
    have hlen : (itRefs m it).length = m := by simp [itRefs]
    have hkm : k = m := by
      rcases Nat.lt_or_ge k m with q | q
      · rw [List.drop_eq_getElem_cons (by rw [hlen]; exact q)] at hr
        cases hr
      · omega
    subst hkm
    have zl : xs.length ≤ sizeLine := by
      rw [Z.ln]
      exact Nat.le_of_lt (small1000 hm2)
    refine wpAny_bind (wpAny_newTuple ?_ (by simpa using zl))
    refine wpAny_pure ⟨_, rfl, ?_⟩
    show Q (.ref h'.objs.size) ⟨h'.push (tupO xs), g, d, tk, os⟩
    have hz4 : (h'.push (tupO xs)).objs.size = h'.objs.size + 1 := Heap.size_push ..
    have hp4 : (h'.push (tupO xs)).get? h'.objs.size = some (tupO xs) := Heap.get?_push_size _ rfl
    rw [Z.sz] at hz4 hp4 ⊢
    exact hQ xs _ tk Z.ln Z.lo (Heap.get?_push_of_some _ Z.zz) (fun q hq => (D q hq).frame _ _ _ (Z.s1 q hq hq) fun b hb o e => Heap.get?_push_of_some _ e) hp4 hz4 fun c o c1 c3 e => Heap.get?_push_of_some _ (Z.kp c o c1 c3 e)
  · exact ⟨hz0, rfl, (fun j v h => nomatch h), fun j h => absurd h (Nat.not_lt_zero _), fun j _ hj => (D j hj).over (st j hj) hs0 (S.zf j hj), hs0.1, fun c o c1 c3 e => hs0.extBut _ _ c1 e⟩
theorem zipN_end_held {Q : PySem.Fin → Shared → Prop} (hm : 0 < m) (S : SepN m it fp z TI TO) (D : ∀ k, k < m → Draws prog w A (it k) (fp k) (n k) (Pv k) (St k))
    (hz : IsZipHeld s.heap z TI TO T f) (hT : s.heap.get? T = some oT) (hTI : s.heap.get? TI = some (tupO (itRefs m it))) (st : ∀ k, k < m → St k i s.heap) (hend : i = n 0)
    (hE : ∀ h' tk e, (∀ c o, c ≠ z → c ≠ TO → (∀ j, j < m → c ≠ it j) → s.heap.get? c = some o → h'.get? c = some o) → (∃ o, h'.get? e = some o ∧ o.cls = .type "StopIteration") → E (.ref e) { s with heap := h', toks := tk }) :
    wpAny (model prog w) A (Builtin.«zip.__next__» ⟨[.ref z], []⟩) Q E s := by
  obtain ⟨hp, g, d, tk0, os⟩ := s
  have ne : (itRefs m it).toArray.isEmpty = false := by
    simp [itRefs]
    omega
  show wpAny _ _ (field (.ref z) 2 >>= _) _ _ _
  refine wpAny_bind (wpAny_field hz rfl (x := .bool false) rfl ?_)
  show wpAny _ _ (field (.ref z) 3 >>= _) _ _ _
  refine wpAny_bind (wpAny_field hz rfl (x := .ref TI) rfl ?_)
  refine wpAny_bind (wpAny_seqItems hTI rfl ?_)
  simp only [ne, Bool.false_eq_true, if_false]
  refine wpAny_bind (wpAny_tupleHeld_zip hz hT fun g0 hz0 hs0 => ?_)
  simp only [Bool.false_eq_true, if_false]
  refine wpAny_bind ?_
  rw [← Array.forIn_toList]
  replace hs0 : Heap.SameBut z hp g0 := hs0
  have hd : (itRefs m it).toArray.toList = Value.ref (it 0) :: (itRefs m it).drop 1 := by
    have hlen : (itRefs m it).length = m := by simp [itRefs]
    have := List.drop_eq_getElem_cons (l := itRefs m it) (i := 0) (by rw [hlen]; exact hm)
    rw [List.drop_zero] at this
    simp only
    rw [this]
    simp [itRefs]
  rw [hd, List.forIn_cons]
  refine wpAny_bind (wpAny_bind (wpAny_holding ?_))
  show wpAny _ _ (Builtin.SmallTypes.nextOf (.ref (it 0)) >>= _) _ _ ⟨g0, g, d, tk0, os⟩
  refine wpAny_bind ((D 0 hm).done ⟨g0, g, d, tk0, os⟩ _ _ (by rw [← hend]; exact (D 0 hm).over (st 0 hm) hs0 (S.zf 0 hm)) fun q e hq he => ?_)
  replace hq : Heap.ExtBut (it 0) g0 q := hq
  exact hE q tk0 e (fun c o cz cT c1 x => hq _ _ (c1 0 hm) (hs0.extBut _ _ cz x)) he
theorem pyNext_zipN_item_held {Q : Option Value → Shared → Prop} (hm : 0 < m) (hm2 : m ≤ 1000) (S : SepN m it fp z TI TO) (D : ∀ k, k < m → Draws prog w A.in1 (it k) (fp k) (n k) (Pv k) (St k))
    (hz : IsZipHeld s.heap z TI TO T f) (hT : s.heap.get? T = some oT) (hTI : s.heap.get? TI = some (tupO (itRefs m it))) (st : ∀ k, k < m → St k i s.heap) (hlt : ∀ k, k < m → i < n k)
    (hQ : ∀ (xs : List Value) h' tk, xs.length = m → (∀ j v, xs[j]? = some v → Pv j i v) → IsZipHeld h' z TI TO T true → (∀ k, k < m → St k (i + 1) h') → h'.get? s.heap.objs.size = some (tupO xs) → h'.objs.size = s.heap.objs.size + 1 →
      (∀ c o, c ≠ z → (∀ j, j < m → c ≠ it j) → s.heap.get? c = some o → h'.get? c = some o) → Q (some (.ref s.heap.objs.size)) { s with heap := h', toks := tk }) :
    wpAny (model prog w) A (pyNext (.ref z)) Q E s := by
  have hTy : s.TypeIs (.ref z) "zip" := ⟨_, hz, rfl⟩
  unfold pyNext
  exact wpAny_bind (wpAny_attempt (wpAny_callSpecial?_slot (name := Str.ofString "__next__") hTy PySem.F.slot_zip_next
    (wpAny_call_entry PySem.F.slot_zip_next hTy PySem.F.entry_zip_next
      (zipN_next_held hm hm2 S D hz hT hTI st hlt fun xs h' tk y1 y2 b1 b2 b5 b6 b7 => wpAny_pure (hQ xs h' tk y1 y2 b1 b2 b5 b6 b7)) (PySem.F.args_zip_next_1 _))))
theorem pyNext_zipN_end_held {Q : Option Value → Shared → Prop} (hm : 0 < m) (S : SepN m it fp z TI TO) (D : ∀ k, k < m → Draws prog w A.in1 (it k) (fp k) (n k) (Pv k) (St k))
    (hz : IsZipHeld s.heap z TI TO T f) (hT : s.heap.get? T = some oT) (hTI : s.heap.get? TI = some (tupO (itRefs m it))) (st : ∀ k, k < m → St k i s.heap) (hend : i = n 0)
    (hQ : ∀ h' tk, (∀ c o, c ≠ z → c ≠ TO → (∀ j, j < m → c ≠ it j) → s.heap.get? c = some o → h'.get? c = some o) → Q none { s with heap := h', toks := tk }) : wpAny (model prog w) A (pyNext (.ref z)) Q E s := by
  have hTy : s.TypeIs (.ref z) "zip" := ⟨_, hz, rfl⟩
  unfold pyNext
  refine wpAny_bind (wpAny_attempt (wpAny_callSpecial?_slot (name := Str.ofString "__next__") hTy PySem.F.slot_zip_next
    (wpAny_call_entry PySem.F.slot_zip_next hTy PySem.F.entry_zip_next (zipN_end_held hm S D hz hT hTI st hend fun h' tk e hk he => ?_) (PySem.F.args_zip_next_1 _))))
  obtain ⟨o, ho, hc⟩ := he
  refine wpAny_bind (wpAny_isInstance (T := "StopIteration") (b := true) ⟨o, ho, hc⟩ isSubtype_stop ?_)
  exact wpAny_pure (hQ _ _ hk)
end
end L2X
/-! zip(*texts) -/
namespace L2X
open PySem PySem.Spec PyProof.Rows L2
def sgn (z : Str) (i : Nat) : V := .str ⟨#[(z.cps[i]?).getD 0]⟩
/-- what zip(*zs) tells, at each turn a new tuple -/
def ItzN (zs : List Str) : It :=
  ⟨fun i H => ∀ z ∈ zs, i < z.cps.size, fun i H v H' => ∃ T, v = .ref T ∧ H T = none ∧ H' = upd H T (.tup (zs.map fun z => sgn z i)), fun i H => ∃ z r, zs = z :: r ∧ z.cps.size = i⟩
theorem vals_at : ∀ {l : List V} {us : List Value}, l.length = us.length → (∀ (j : Nat) (x : V) (u : Value), l[j]? = some x → us[j]? = some u → RelV x u) → Vals l us
  | [], [], _, _ => .nil
  | [], _ :: _, h, _ => by cases h
  | _ :: _, [], h, _ => by cases h
  | x :: l, u :: us, h, g => .cons (g 0 x u rfl rfl) (vals_at (Nat.succ.inj h) fun j y v a b => g (j + 1) y v a b)
def fpN (z TI TO : Addr) (m N : Nat) : List Addr := z :: TI :: TO :: (List.range m).map fun k => N + k
theorem fpN_mem {z TI TO c : Addr} {m N : Nat} : c ∈ fpN z TI TO m N ↔ c = z ∨ c = TI ∨ c = TO ∨ ∃ k, k < m ∧ c = N + k := by
  unfold fpN
  rw [List.mem_cons, List.mem_cons, List.mem_cons, List.mem_map]
  constructor
  · rintro (h | h | h | ⟨k, hk, h⟩)
    · exact .inl h
    · exact .inr (.inl h)
    · exact .inr (.inr (.inl h))
    · exact .inr (.inr (.inr ⟨k, List.mem_range.mp hk, h.symm⟩))
  · rintro (h | h | h | ⟨k, hk, h⟩)
    · exact .inl h
    · exact .inr (.inl h)
    · exact .inr (.inr (.inl h))
    · exact .inr (.inr (.inr ⟨k, List.mem_range.mpr hk, h.symm⟩))
def tnN (zs : List Str) (z TI TO N : Addr) : Nat → Heap → Prop := fun i h => (IsZ5 h z TI TO .none (.bool false) ∨ ∃ T f, IsZipHeld h z TI TO T f) ∧ h.get? TI = some (tupO (itRefs zs.length fun k => N + k)) ∧ (∃ xs0 : List Value, xs0.length = zs.length ∧ h.get? TO = some (tupO xs0)) ∧
  ∀ k, k < zs.length → ∃ t, h.IsStrIter (N + k) (strIterType (zs.getD k "")) (zs.getD k "") t i
theorem strIter_at {h h' : Heap} {it : Addr} {T : String} {z : Str} {t : Tok} {i : Nat} (e : h.IsStrIter it T z t i) (k : ∀ o, h.get? it = some o → h'.get? it = some o) : h'.IsStrIter it T z t i := by
  obtain ⟨o, e1, e2, d⟩ := e
  exact ⟨o, k _ e1, e2, d⟩
theorem sepN_new {m N : Nat} : SepN m (fun k => (N + k : Nat)) (fun k => [(N + k : Nat)]) (N + m + 2 : Nat) (N + m : Nat) (N + m + 1 : Nat) where
  TIz := (show ¬ ((N + m : Nat) = N + m + 2) by omega)
  TOz := (show ¬ ((N + m + 1 : Nat) = N + m + 2) by omega)
  TITO := (show ¬ ((N + m : Nat) = N + m + 1) by omega)
  TIi := fun k hk => (show ¬ ((N + m : Nat) = N + k) by omega)
  mem := fun k hk => List.mem_singleton.mpr rfl
  zf := fun k hk h => (show ¬ ((N + m + 2 : Nat) = N + k) by omega) (List.mem_singleton.mp h)
  Tf := fun k hk h => (show ¬ ((N + m + 1 : Nat) = N + k) by omega) (List.mem_singleton.mp h)
  sep := fun j k hj hk hne h => (show ¬ ((N + j : Nat) = N + k) by omega) (List.mem_singleton.mp h)
theorem turn_zipN {P : Program} {w : World} {K : PySem.W.Frag} {nm : Str} {npos : Pos} {zs : List Str} {N z TI TO : Addr} (h0 : 0 < zs.length) (h1 : zs.length ≤ 1000) (S : SepN zs.length (fun k => N + k) (fun k => [N + k]) z TI TO) :
    Turn P w K (.Name nm npos) (ItzN zs) (fpN z TI TO zs.length N) z (tnN zs z TI TO N) where
  mem := by simp [fpN]
  obj := fun i h st c hc => by
    obtain ⟨hz, hTI, ⟨xs0, _, hTO⟩, hk⟩ := st
    rcases fpN_mem.mp hc with q | q | q | ⟨k, hkm, q⟩
    · rcases hz with hz | ⟨T, f, hz⟩
      · rw [q]; exact ⟨_, hz, fun v q => nomatch q⟩
      · rw [q]; exact ⟨_, hz, fun v q => nomatch q⟩
    · rw [q]; exact ⟨_, hTI, fun v q => nomatch q⟩
    · rw [q]; exact ⟨_, hTO, fun v q => nomatch q⟩
    · obtain ⟨t, o, e1, _, d⟩ := hk k hkm
      rw [q]
      exact ⟨o, e1, fun v q => by rw [d] at q; cases q⟩
  keep := fun i h h' st kp => by
    obtain ⟨hz, hTI, ⟨xs0, hl, hTO⟩, hk⟩ := st
    have kz := kp z (fpN_mem.mpr (.inl rfl))
    refine ⟨?_, kp TI (fpN_mem.mpr (.inr (.inl rfl))) _ hTI, ⟨xs0, hl, kp TO (fpN_mem.mpr (.inr (.inr (.inl rfl)))) _ hTO⟩, fun k hkm => ?_⟩
    · rcases hz with hz | ⟨T, f, hz⟩
      · exact .inl (kz _ hz)
      · exact .inr ⟨T, f, kz _ hz⟩
    · obtain ⟨t, e⟩ := hk k hkm
      exact ⟨t, strIter_at e fun o q => kp _ (fpN_mem.mpr (.inr (.inr (.inr ⟨k, hkm, rfl⟩)))) o q⟩
  item := by
    intro X hP hw hK hc i pins s σ H E I hf st hg
    subst hP hw hK
    obtain ⟨hz, hTI, ⟨xs0, hl, hTO⟩, hk⟩ := st
    obtain ⟨tf, htf⟩ : ∃ tf : Nat → Tok, ∀ k, k < zs.length → s.heap.IsStrIter (N + k) (strIterType (zs.getD k "")) (zs.getD k "") (tf k) i := by
      refine ⟨fun k => if h : k < zs.length then (hk k h).choose else 0, fun k hkm => ?_⟩
      simp only [hkm, dif_pos]
      exact (hk k hkm).choose_spec
    have hh := I.ok.hd hc
    have D : ∀ k, k < zs.length → Draws X.prog X.w X.A.in1 (N + k) [N + k] (zs.getD k "").cps.size (fun i v => SignAt (zs.getD k "") i v) (fun i h => h.IsStrIter (N + k) (strIterType (zs.getD k "")) (zs.getD k "") (tf k) i) := fun k _ => Draws.text (A := X.A.in1) hh (N + k) (zs.getD k "") (tf k)
    have hlt : ∀ k, k < zs.length → i < (zs.getD k "").cps.size := fun k hkm => by
      rw [List.getD_eq_getElem?_getD, List.getElem?_eq_getElem hkm]
      exact hg _ (List.getElem_mem hkm)
    have hzl : z < s.heap.objs.size := by
      rcases hz with hz | ⟨T, f, hz⟩
      · exact Heap.lt_size hz
      · exact Heap.lt_size hz
    have fin : ∀ (xs : List Value) h' tk, xs.length = zs.length → (∀ j v, xs[j]? = some v → SignAt (zs.getD j "") i v) → (∃ T f, IsZipHeld h' z TI TO T f) → (∃ xs1 : List Value, xs1.length = zs.length ∧ h'.get? TO = some (tupO xs1)) →
        (∀ k, k < zs.length → h'.IsStrIter (N + k) (strIterType (zs.getD k "")) (zs.getD k "") (tf k) (i + 1)) → h'.get? s.heap.objs.size = some (tupO xs) → h'.objs.size = s.heap.objs.size + 1 →
        (∀ c o, c ≠ z → c ≠ TO → (∀ j, j < zs.length → c ≠ N + j) → s.heap.get? c = some o → h'.get? c = some o) →
        ∃ u, (some (Value.ref s.heap.objs.size)) = some u ∧ wpAny (model X.prog X.w) X.A (letOwnedTupleGo (.Name nm npos) (.ref z) u) (fun _ s2 => ∃ x H', Inv X pins σ H' s2 ∧ RelV x u ∧ (ItzN zs).yld i H x H' ∧ tnN zs z TI TO N (i + 1) s2.heap ∧ ∀ b ∈ fpN z TI TO zs.length N, H' b = none) E { s with heap := h', toks := tk } := by
      intro xs h' tk q1 q2 q3 q4 q5 q6 q7 q8
      refine ⟨_, rfl, ?_⟩
      show wpAny _ _ (pure ()) _ _ _
      refine wpAny_pure ?_
      have rvs : Vals (zs.map fun z => sgn z i) xs := vals_at (by rw [List.length_map, q1]) fun j x u hx hu => by
        rw [List.getElem?_map] at hx
        obtain ⟨zj, hzj, rfl⟩ : ∃ zj, zs[j]? = some zj ∧ x = sgn zj i := by
          cases e : zs[j]? with
          | none =>
            rw [e] at hx
            cases hx
          | some y =>
            rw [e] at hx
            exact ⟨y, rfl, (Option.some.inj hx).symm⟩
        obtain ⟨c, u', e1, e2⟩ := q2 j u hu
        rw [List.getD_eq_getElem?_getD, hzj] at e1
        have e1' : zj.cps[i]? = some c := e1
        refine ⟨u', ?_⟩
        rw [e2, e1']
        rfl
      have new : ObjOk X.prog X.w (upd H s.heap.objs.size (.tup (zs.map fun z => sgn z i))) h' s.heap.objs.size (.tup (zs.map fun z => sgn z i)) :=
        ⟨by rw [List.length_map]; exact Nat.le_of_lt (small1000 h1), xs, rvs, ⟨_, q6, rfl, _, rfl⟩⟩
      have I1 : Inv X pins σ (upd H s.heap.objs.size (.tup (zs.map fun z => sgn z i))) { s with heap := h', toks := tk } :=
        I.turnedNew (t' := tk) (ch := fpN z TI TO zs.length N) (fun c o hb q => q8 c o (fun e => hb (fpN_mem.mpr (.inl e))) (fun e => hb (fpN_mem.mpr (.inr (.inr (.inl e))))) (fun j hj e => hb (fpN_mem.mpr (.inr (.inr (.inr ⟨j, hj, e⟩))))) q) hf (Nat.le_refl _) new
      refine ⟨.ref s.heap.objs.size, _, I1, rfl, ⟨_, rfl, I.hok.fresh (Nat.le_refl _), rfl⟩, ⟨.inr q3, q8 _ _ S.TIz S.TITO (fun j hj => S.TIi j hj) hTI, q4, fun k hkm => ⟨tf k, q5 k hkm⟩⟩, fun c hcm => ?_⟩
      have hlt : c < s.heap.objs.size := by
        rcases fpN_mem.mp hcm with q | q | q | ⟨k, hkm, q⟩
        · rw [q]; exact hzl
        · rw [q]; exact Heap.lt_size hTI
        · rw [q]; exact Heap.lt_size hTO
        · obtain ⟨_, e1, _⟩ := htf k hkm
          rw [q]
          exact Heap.lt_size e1
      rw [upd_ne (Nat.ne_of_lt hlt)]
      exact (hf c hcm).1
    rcases hz with hz | ⟨T, f, hz⟩
    · exact pyNext_zipN_item (n := fun k => (zs.getD k "").cps.size) h0 h1 S D hz (free_none hz) hTI hTO hl htf hlt fun xs h' tk y1 y2 b1 b2 d1 b5 b6 b7 => fin xs h' tk y1 y2 ⟨_, _, b1⟩ ⟨xs, y1, b2⟩ d1 b5 b6 b7
    · cases hT : s.heap.get? T with
      | none => exact pyNext_zipN_item (n := fun k => (zs.getD k "").cps.size) h0 h1 S D hz (free_gone hz hT) hTI hTO hl htf hlt fun xs h' tk y1 y2 b1 b2 d1 b5 b6 b7 => fin xs h' tk y1 y2 ⟨_, _, b1⟩ ⟨xs, y1, b2⟩ d1 b5 b6 b7
      | some oT => exact pyNext_zipN_item_held (n := fun k => (zs.getD k "").cps.size) h0 h1 S D hz hT hTI htf hlt fun xs h' tk y1 y2 b1 d1 b5 b6 b7 => fin xs h' tk y1 y2 ⟨_, _, b1⟩ ⟨xs0, hl, b7 _ _ S.TOz (fun j hj => S.Ti hj) hTO⟩ d1 b5 b6 fun c o c1 _ c3 e => b7 c o c1 c3 e
  done := by
    intro X hP hw hK hc i pins s σ H E I hf st hg
    subst hP hw hK
    obtain ⟨hz, hTI, ⟨xs0, hl, hTO⟩, hk⟩ := st
    obtain ⟨tf, htf⟩ : ∃ tf : Nat → Tok, ∀ k, k < zs.length → s.heap.IsStrIter (N + k) (strIterType (zs.getD k "")) (zs.getD k "") (tf k) i := by
      refine ⟨fun k => if h : k < zs.length then (hk k h).choose else 0, fun k hkm => ?_⟩
      simp only [hkm, dif_pos]
      exact (hk k hkm).choose_spec
    have hh := I.ok.hd hc
    have D : ∀ k, k < zs.length → Draws X.prog X.w X.A.in1 (N + k) [N + k] (zs.getD k "").cps.size (fun i v => SignAt (zs.getD k "") i v) (fun i h => h.IsStrIter (N + k) (strIterType (zs.getD k "")) (zs.getD k "") (tf k) i) := fun k _ => Draws.text (A := X.A.in1) hh (N + k) (zs.getD k "") (tf k)
    have hend : i = (zs.getD 0 "").cps.size := by
      obtain ⟨y, r, e, ez⟩ := hg
      rw [e]
      exact ez.symm
    have fin : ∀ (h' : Heap) (tk : Nat), (∀ c o, c ≠ z → c ≠ TO → (∀ j, j < zs.length → c ≠ N + j) → s.heap.get? c = some o → h'.get? c = some o) → (none : Option Value) = none ∧ Inv X pins σ H { s with heap := h', toks := tk } := fun h' tk hk' =>
      ⟨rfl, I.turnedL (t' := tk) (ch := fpN z TI TO zs.length N) (fun c o hb q => hk' c o (fun e => hb (fpN_mem.mpr (.inl e))) (fun e => hb (fpN_mem.mpr (.inr (.inr (.inl e))))) (fun j hj e => hb (fpN_mem.mpr (.inr (.inr (.inr ⟨j, hj, e⟩))))) q) hf⟩
    rcases hz with hz | ⟨T, f, hz⟩
    · exact pyNext_zipN_end (n := fun k => (zs.getD k "").cps.size) h0 S D hz (free_none hz) hTI hTO htf hend fin
    · cases hT : s.heap.get? T with
      | none => exact pyNext_zipN_end (n := fun k => (zs.getD k "").cps.size) h0 S D hz (free_gone hz hT) hTI hTO htf hend fin
      | some oT => exact pyNext_zipN_end_held (n := fun k => (zs.getD k "").cps.size) h0 S D hz hT hTI htf hend fin
  self := fun A i s Q E st h => by
    rcases st.1 with hz | ⟨T, f, hz⟩
    · exact wpAny_pyIter_zip hz h
    · have hTy : s.TypeIs (.ref z) "zip" := ⟨_, hz, rfl⟩
      refine wpAny_pyIter_slot hTy PySem.F.slot_zip_iter (wpAny_call_entry PySem.F.slot_zip_iter hTy PySem.F.entry_zip_iter ?_ (PySem.F.args_zip_iter_1 _))
      show wpAny _ _ (ret (.ref z)) _ _ s
      exact wpAny_pure ⟨_, rfl, "zip", _, hTy, PySem.F.slot_zip_next.lookup, h⟩
/-- zip(*e), e a tuple or a list of texts -/
def iZipS (K : PySem.W.Frag) (te : TE) : TI := fun σ H R => te σ H fun y H1 => ∃ a zs, y = V.ref a ∧ (SqT K H1 a (zs.map V.str) ∨ SqL K H1 a (zs.map V.str)) ∧ 0 < zs.length ∧ zs.length ≤ 1000 ∧ R (ItzN zs) H1
theorem begin_all : ∀ {zs : List Str} {us : List Value}, Vals (zs.map V.str) us → ∃ l : List (Value × Obj), l.map (·.1) = us ∧ l.length = zs.length ∧ (∀ p ∈ l, Begins p.1 p.2 fun _ => True) ∧
    ∀ (k : Nat) (z : Str), zs[k]? = some z → ∃ p : Value × Obj, l[k]? = some p ∧ ∀ (h' : Heap) (it : Addr), h'.get? it = some p.2 → ∃ t, h'.IsStrIter it (strIterType z) z t 0
  | [], [], _ => ⟨[], rfl, rfl, (fun _ h => nomatch h), fun k z h => nomatch h⟩
  | [], _ :: _, h => nomatch h.length
  | _ :: _, [], h => nomatch h.length
  | z :: zs, u :: us, rv => by
    obtain ⟨r, rr⟩ : RelV (.str z) u ∧ Vals (zs.map V.str) us := by cases rv with | cons r rr => exact ⟨r, rr⟩
    obtain ⟨l, e1, e2, e3, e4⟩ := begin_all rr
    obtain ⟨t, rfl⟩ := r
    obtain ⟨o, B, hit⟩ : ∃ o, Begins (Value.str z t) o (fun _ => True) ∧ ∀ (h' : Heap) (it : Addr), h'.get? it = some o → ∃ t', h'.IsStrIter it (strIterType z) z t' 0 := ⟨_, begins_text z t, fun h' it e => ⟨t, _, e, rfl, rfl⟩⟩
    refine ⟨(Value.str z t, o) :: l, by rw [List.map_cons, e1], by rw [List.length_cons, e2]; rfl, fun p hp => ?_, fun k y hy => ?_⟩
    · rcases List.mem_cons.mp hp with q | q
      · rw [q]
        exact B
      · exact e3 p q
    · cases k with
      | zero =>
        cases hy
        exact ⟨_, rfl, hit⟩
      | succ k => exact e4 k y hy
theorem callWith_typeS {M : Model} {A : Around} {E : Value → Shared → Prop} {s : Shared} {env : Env} {pos p : Pos} {T : String} {e : Expr} {Q : Value → Shared → Prop}
    (h : wpAny M A (eval e env) (fun v s₁ => PySem.W.StarOf M A E v (fun vs s₂ => wpAny M A (call (.type T) vs) Q E s₂) s₁) E s) (he : starEach [.Starred e p] env = [(true, eval e env)]) :
    wpAny M A (callWith pos (.type T) [] (backTo pos (starEach [.Starred e p] env)) []) Q E s := by
  rw [he]
  have h2 := PySem.W.ks_lone (f := .type T) (pos := pos) (Q := fun a s₁ => wpAny M A (call (.type T) ([] ++ a.pos) a.kw) Q E s₁) h
  unfold callWith
  refine wpAny_bind (wpAny_holding (wpAny_mono h2 (fun a s₁ h₁ => wpAny_bind (wpAny_standAt ?_)) fun _ _ x => x))
  refine wpAny_bind (wpAny_pure ?_)
  exact wpAny_bind (wpAny_mono (wpAny_operating h₁) (fun r s₂ hr => wpAny_bind (wpAny_holding (wpAny_point (wpAny_pure hr)))) fun _ _ x => x)
theorem pi_zipS {X : Cx} {e : Expr} {te : TE} {p sp pos npos : Pos} {nm : Str} (hg : Gl X "zip") (hm : X.mg "zip" = none) (he : PE X e te) (hst : starEach [.Starred e sp] X.env = [(true, eval e X.env)] := by rfl) :
    PI X (.Name nm npos) (.Call (.Name "zip" p) [.Starred e sp] [] pos) (iZipS X.K te) := by
  refine ⟨fun pins s σ H R I h => ?_⟩
  refine Call_ (ld_blt I hg hm PyProof.Rows.boot_zip (callWith_typeS (thn (he.run pins s σ H _ I h) fun v s1 ⟨y, H1, I1, ry, a, zs, ey, hx, z0, z1, q⟩ => ?_) hst))
  subst ey
  obtain rfl : v = Value.ref a := ry
  refine StX.star_any I1 hx fun us s2 I2 rv => ?_
  obtain ⟨l, e1, e2, e3, e4⟩ := begin_all rv
  rw [← e1]
  refine zip_beginsN (by omega) (by omega) e3 fun h' hz hTI hTO hk hsz kp => wpAny_pyIter_zip hz ?_
  have I3 : Inv X pins σ H1 { s2 with heap := h' } := I2.kept (t' := s2.toks) kp
  rw [e2] at hz hTI hTO
  refine ⟨_, fpN (s2.heap.objs.size + zs.length + 2) (s2.heap.objs.size + zs.length) (s2.heap.objs.size + zs.length + 1) zs.length s2.heap.objs.size, tnN zs (s2.heap.objs.size + zs.length + 2) (s2.heap.objs.size + zs.length) (s2.heap.objs.size + zs.length + 1) s2.heap.objs.size, _, H1, by rw [e2], I3, turn_zipN z0 z1 sepN_new, ⟨.inl hz, hTI, ⟨_, by rw [List.length_replicate], hTO⟩, fun k hkm => ?_⟩, fun c hcm => ?_, q⟩
  · obtain ⟨p, hp, hit⟩ := e4 k zs[k] (List.getElem?_eq_getElem hkm)
    have z := hit h' _ (hk k p hp)
    rw [List.getD_eq_getElem?_getD, List.getElem?_eq_getElem hkm]
    exact z
  · have hle : s2.heap.objs.size ≤ c := by
      have h3 : ∀ a : Nat, @Eq Nat c (s2.heap.objs.size + a) → s2.heap.objs.size ≤ c := fun a e => by
        have e' : (c : Nat) = s2.heap.objs.size + a := e
        exact e' ▸ Nat.le_add_right _ _
      rcases fpN_mem.mp hcm with z | z | z | ⟨k, _, z⟩
      · exact h3 (zs.length + 2) z
      · exact h3 zs.length z
      · exact h3 (zs.length + 1) z
      · exact h3 k z
    exact I2.fpOk hle (I2.hok.fresh hle)
/-- a comprehension over it -/
theorem lc_zipN {zs : List Str} {n : Nat} {g : TG} {tt : TT} {te : TE} {vs : List Nat} {σ : L2.St} {H1 : Hp} {D : Addr} {Qd : Hp → Prop} (h0 : 0 < zs.length) (hn : ∀ z ∈ zs, z.cps.size = n) (Pv : Nat → Hp → Prop) (hP : Pv 0 (upd H1 D (.lst [])))
    (hs : ∀ i H T, i < n → Pv i H → H T = none → g (.ref T) (wipe σ vs) (upd H T (.tup (zs.map fun z => sgn z i))) fun σ2 H2 => wipe σ2 vs = wipe σ vs ∧ tt σ2 H2 fun b H3 =>
      if b = true then te σ2 H3 fun z H4 => ∃ acc, H4 D = some (.lst acc) ∧ acc.length < sizeLine ∧ Pv (i + 1) (upd H4 D (.lst (acc ++ [z]))) else Pv (i + 1) H3) (hd : ∀ H, Pv n H → Qd H) :
    ∃ W : Nat → Nat → Hp → Prop, (∃ m, W 0 m (upd H1 D (.lst []))) ∧ ∀ i m H, W i m H →
      ((ItzN zs).stop i H ∧ Qd H) ∨ ((ItzN zs).go i H ∧ ∃ Nx : Hp → Prop, (∀ H', Nx H' → ∃ m', m' < m ∧ W (i + 1) m' H') ∧ ∀ x H', (ItzN zs).yld i H x H' → g x (wipe σ vs) H' fun σ2 H2 => wipe σ2 vs = wipe σ vs ∧ tt σ2 H2 fun b H3 =>
        if b = true then te σ2 H3 fun y H4 => ∃ acc, H4 D = some (.lst acc) ∧ acc.length < sizeLine ∧ Nx (upd H4 D (.lst (acc ++ [y]))) else Nx H3) := by
  refine ⟨fun i m H => m = n - i ∧ i ≤ n ∧ Pv i H, ⟨n, by simp, Nat.zero_le _, hP⟩, ?_⟩
  rintro i m H ⟨rfl, hi, p⟩
  by_cases hlt : i < n
  · refine .inr ⟨fun z hz => by rw [hn z hz]; exact hlt, Pv (i + 1), fun H' p' => ⟨n - (i + 1), by omega, rfl, hlt, p'⟩, fun x H' y => ?_⟩
    obtain ⟨T, rfl, nT, rfl⟩ := y
    exact hs i H T hlt p nT
  · have e : i = n := by omega
    subst e
    refine .inl ⟨?_, hd H p⟩
    cases zs with
    | nil => exact absurd h0 (Nat.lt_irrefl _)
    | cons z r => exact ⟨z, r, rfl, hn z List.mem_cons_self⟩
end L2X
/-! t[::-1] -/
namespace L2X
open PySem PySem.Spec PyProof.Rows L2
theorem fm_congr {α β : Type} {f g : α → Option β} : ∀ {l : List α}, (∀ x ∈ l, f x = g x) → l.filterMap f = l.filterMap g
  | [], _ => rfl
  | x :: l, h => by
    rw [List.filterMap_cons, List.filterMap_cons, h x List.mem_cons_self, fm_congr fun y hy => h y (List.mem_cons_of_mem _ hy)]
theorem pick_back (xs : Array Value) : ((List.range xs.size).filterMap fun (k : Nat) => xs[(((xs.size : Int) - 1) + (k : Int) * (-1)).toNat]?).toArray = xs.toList.reverse.toArray := by
  have e : ((List.range xs.size).filterMap fun (k : Nat) => xs[(((xs.size : Int) - 1) + (k : Int) * (-1)).toNat]?) = ((List.range xs.size).map fun k => xs.size - 1 - k).filterMap (xs[·]?) := by
    rw [List.filterMap_map]
    apply fm_congr
    intro k hk
    have := List.mem_range.mp hk
    have e2 : (((xs.size : Int) - 1) + (k : Int) * (-1)).toNat = xs.size - 1 - k := by omega
    rw [e2]
    rfl
  rw [e, PySem.W.krv_range, List.filterMap_reverse, PySem.W.krv_all]
section
variable {prog : Program} {w : World} {A : Around} {E : Value → Shared → Prop} {s : Shared}
theorem sliceApplied_back {sl : Addr} {vs : Value} {n : Nat} {Q : Int × Int × Nat → Shared → Prop} (hs : s.heap.IsSliceOf sl .none .none vs) (ps : IsPart vs (some (-1)))
    (h : Q ((n : Int) - 1, -1, n) s) : wpAny (model prog w) A (Builtin.Slice.sliceApplied (.ref sl) (pure (n : Int))) Q E s := by
  obtain ⟨os, hos, hcs, hds⟩ := id hs
  unfold Builtin.Slice.sliceApplied Builtin.Slice.sliceFields
  refine wpAny_bind (wpAny_bind (wpAny_field hos hds (x := .none) rfl (wpAny_bind (wpAny_field hos hds (x := .none) rfl (wpAny_bind (wpAny_field hos hds (x := vs) rfl (wpAny_pure ?_)))))))
  refine wpAny_bind (HT.slicePart_ ps ?_)
  show wpAny _ _ (if ((-1 : Int) == 0) = true then _ else _) _ _ s
  rw [if_neg (by decide)]
  refine wpAny_bind (slicePart_none (wpAny_bind (slicePart_none (wpAny_bind (wpAny_pure ?_)))))
  show wpAny _ _ (pure ((n : Int) - 1, (-1 : Int), Builtin.Slice.slicePlaces ((n : Int) - 1) (-1) (-1))) _ _ s
  have e : Builtin.Slice.slicePlaces ((n : Int) - 1) (-1) (-1) = n := by
    unfold Builtin.Slice.slicePlaces
    rw [if_neg (by decide)]
    by_cases q : (n : Int) - 1 > -1
    · rw [if_pos q]
      have : ((n : Int) - 1 - -1 - 1) / (- -1) = (n : Int) - 1 := by
        rw [show (- -1 : Int) = 1 by decide, Int.ediv_one]
        omega
      rw [this]
      omega
    · rw [if_neg q]
      omega
  rw [e]
  exact wpAny_pure h
theorem getItem_tuple_back {t sl : Addr} {items : Array Value} {vs : Value} {Q : Value → Shared → Prop} (ht : IsTup s.heap t items) (hs : s.heap.IsSliceOf sl .none .none vs) (ps : IsPart vs (some (-1)))
    (h : Q (.ref s.heap.objs.size) { s with heap := s.heap.push { cls := .type "tuple", data := .seq items.toList.reverse.toArray } }) (hsz : items.size ≤ sizeLine) : wpAny (model prog w) A (getItem (.ref t) (.ref sl)) Q E s := by
  have htake : sizeOk (.seq items.toList.reverse.toArray) := by
    show items.toList.reverse.toArray.size ≤ sizeLine
    rw [List.size_toArray, List.length_reverse, Array.length_toList]
    exact hsz
  obtain ⟨os, hos, hcs, hds⟩ := id hs
  have hTs : s.TypeIs (.ref sl) "slice" := ⟨os, hos, hcs⟩
  unfold getItem
  try with_reducible refine wpAny_holding ?_
  first | refine wpAny_bind (wpAny_pure ?_) | skip
  refine wpAny_bind (wpAny_sequenceKey ht.typeIs (by decide) ?_)
  refine wpAny_bind (wpAny_callSpecial?_slot (name := Str.ofString "__getitem__") ht.typeIs PyProof.Rows.slot_tuple_getitem
    (wpAny_call_entry PyProof.Rows.slot_tuple_getitem ht.typeIs entry_tuple_getitem ?_ (args_tuple_getitem _ _)))
  show wpAny _ _ (Builtin.Tuple.tupleItemsOf (.ref t) >>= _) _ _ s
  refine wpAny_bind (tupleItemsOf_ ht ?_)
  refine wpAny_bind (wpAny_typeOf hTs ?_)
  rw [if_pos (by decide)]
  refine wpAny_bind (sliceApplied_back hs ps ?_)
  have hno : ¬ ((((items.size : Int) - 1) == 0 && (-1 : Int) == 1 && items.size == items.size) = true) := by
    intro q
    rw [Bool.and_eq_true, Bool.and_eq_true] at q
    exact absurd q.1.2 (by decide)
  show wpAny _ _ (if (((items.size : Int) - 1) == 0 && (-1 : Int) == 1 && items.size == items.size) = true then _ else _) _ _ s
  rw [if_neg hno, pick_back]
  first
    | exact wpAny_bind (m := Builtin.Tuple.tupleExact _) (wpAny_newObj_type (wpAny_pure ⟨_, rfl, wpAny_pure h⟩) htake)
    | exact wpAny_bind (m := Builtin.Tuple.tupleExact _) (wpAny_newObj_type (wpAny_bind (wpAny_pure (wpAny_pure ⟨_, rfl, wpAny_pure h⟩))) htake)
    | exact wpAny_bind (wpAny_bind (m := Builtin.Tuple.tupleExact _) (wpAny_newObj_type (wpAny_pure (wpAny_pure ⟨_, rfl, wpAny_pure h⟩)) htake))
    | exact wpAny_bind (wpAny_bind (m := Builtin.Tuple.tupleExact _) (wpAny_newObj_type (wpAny_pure ⟨_, rfl, wpAny_pure h⟩) htake))
end
section
variable {X : Cx}
def tRevT (K : PySem.W.Frag) (te : TE) : TE := fun σ H Q => te σ H fun x H1 => ∃ a xs, x = .ref a ∧ SqT K H1 a xs ∧ ∀ p, H1 p = none → Q (.ref p) (upd H1 p (.tup xs.reverse))
theorem pe_revT {e : Expr} {te : TE} {k : Nat} {p1 p2 p3 pos : Pos} (he : PE X e te) : PE X (.Subscript e (.Slice none none (some (.UnaryOp .USub (.Constant (.int 1) k p1) p2)) p3) pos) (tRevT X.K te) := by
  refine ⟨fun pins s σ H Q I h => ?_⟩
  refine Subscript_ (thn (he.run pins s σ H _ I h) fun v s1 ⟨x, H1, I1, r1, q1⟩ => ?_)
  obtain ⟨a, xs, ex, hx, q⟩ := q1
  subst ex
  cases r1
  have hst : PO X (some (.UnaryOp .USub (.Constant (.int 1) k p1) p2)) (tPart (tUn (rU fun i => .int (-i)) (tC (.int 1)))) := po_some (pe_un un_neg pe_int)
  have hn : ∀ {o : Value}, IsPart o none → o = .none := fun p => by cases p; rfl
  refine wpAny_Slice (thn (po_none.run pins s1 σ H1 (fun o H2 => o = none ∧ H2 = H1) I1 ⟨rfl, rfl⟩) fun vl s2 ⟨l, H2, I2, pl, el, e2⟩ => ?_)
  subst el e2
  refine thn (po_none.run pins s2 σ H2 (fun o H3 => o = none ∧ H3 = H2) I2 ⟨rfl, rfl⟩) fun vu s3 ⟨u, H3, I3, pu, eu, e3⟩ => ?_
  subst eu e3
  have evl := hn pl
  have evu := hn pu
  subst evl evu
  refine thn (hst.run pins s3 σ H3 (fun o H4 => o = some (-1) ∧ H4 = H3) I3 ⟨1, rfl, -1, rfl, rfl, rfl⟩) fun vs s4 ⟨o, H4, I4, ps, eo, e4⟩ => ?_
  subst eo e4
  have I5 : Inv X pins σ H4 { s4 with heap := s4.heap.push { cls := .type "slice", data := .fields #[.none, .none, vs] } } := I4.kept (t' := s4.toks) fun b ob q => Heap.get?_push_of_some _ q
  obtain ⟨its, r, ht, hz⟩ := I5.tuple hx
  have hlen := r.length
  show wpAny (model X.prog X.w) X.A (subscriptTail e (.Slice none none (some (.UnaryOp .USub (.Constant (.int 1) k p1) p2)) p3) (.ref a) (.ref s4.heap.objs.size)) (EP X pins σ Q) X.xe { s4 with heap := s4.heap.push { cls := .type "slice", data := .fields #[.none, .none, vs] } }
  refine tail_any (ops := [.ref a, .ref s4.heap.objs.size]) ht.typeIs (PyProof.Rows.slot_tuple_getitem.lookup) ?_ (by with_unfolding_all rfl)
  refine getItem_tuple_back ht (Heap.IsSliceOf.new _ .none .none vs) ps ?_ (by rw [List.size_toArray]; omega)
  have e : its.toArray.toList.reverse.toArray = its.reverse.toArray := by simp
  rw [e]
  refine ⟨.ref _, _, I5.laid (t' := s4.toks) (o := .tup xs.reverse) (fun b ob q => Heap.get?_push_of_some _ q) (Nat.le_refl _) ?_, rfl, q _ (I5.hok.fresh (Nat.le_refl _))⟩
  exact ⟨by rw [List.length_reverse]; exact hz, its.reverse, r.reverse, IsTup.new _ _⟩
end
end L2X
/-! a comprehension that an exception may leave -/
namespace L2X
open PySem PySem.Spec PyProof.Rows L2
section
variable {M : Model} {A : Around} {E : Value → Shared → Prop} {s : Shared} {env : Env}
def compPostX (M : Model) (A : Around) (E : Value → Shared → Prop) (Q : Value → Shared → Prop) (acc : Value) (cenv : Env) (r : Result) (s' : Shared) : Prop :=
  match r with
  | .ok _ => ∃ m, s'.heap.Ns cenv.locals m ∧ ∀ h', Heap.SameBut cenv.locals s'.heap h' → Q acc { s' with heap := h' }
  | .error x => ∃ m, s'.heap.Ns cenv.locals m ∧ ∀ h', Heap.SameBut cenv.locals s'.heap h' → wpAny M A (passOn "comprehension.variables-let-go" x cenv : Sem Value) (fun _ _ => False) E { s' with heap := h' }
theorem comp_freeX {e : Expr} {scope : Scope} {pos : Pos} {newAcc first : Sem Value} {g : Comprehension} {gs : List Comprehension} {cl : List (Str × Addr)} {Q : Value → Shared → Prop}
    (hcl : clausesOf e = g :: gs) (hs : ∀ x, foldedSetIterable g.iter env x = pure x) (hclos : closureFor scope env = pure cl)
    (hkind : scope.kind = .function) (hnames : ∀ x ∈ scope.names, x.2 = .local → scope.names.lookup x.1 = some .local)
    (h : wpAny M A first (fun x s₁ => wpAny M A (pyIter x) (fun it s₂ => wpAny M A newAcc (fun acc s₃ =>
      wpAny M A (newFunctionEnv scope env.globals cl [] env.qual none .none (some env)) (fun cenv s₄ =>
        codeAny M A (.compStart e 0 it acc { cenv with scope := relabel scope env }) (compPostX M A E Q acc { cenv with scope := relabel scope env }) s₄) E s₃) E s₂) E s₁) E s) :
    wpAny M A (comprehension e scope env pos newAcc false first none) Q E s := by
  unfold comprehension
  rw [hclos, hcl]
  refine wpAny_bind (wpAny_mono h (fun x s₁ h₁ => wpAny_bind (wpAny_standAt (wpAny_bind (wpAny_of_eq (hs x) (wpAny_bind (wpAny_holding (wpAny_mono h₁ (fun it s₂ h₂ =>
    wpAny_standIf (wpAny_bind (wpAny_mono h₂ (fun acc s₃ h₃ => wpAny_bind (wpAny_pure (wpAny_bind (wpAny_mono h₃ (fun cenv s₄ h₄ => ?_) fun _ _ h' => h')))) fun _ _ h' => h')))
      fun _ _ h' => h'))))))) fun _ _ h' => h')
  dsimp only
  have hv : ∀ x ∈ (scope.names.filter fun x => (x.2 == .local || x.2 == .cell) && x.1 != (".0" : Str)).reverse, x.2 = .local →
      Env.kindOf { cenv with scope := relabel scope env } x.1 = some .local := fun x hx hl => lookup_relabel_local (hnames x (List.mem_filter.mp (List.mem_reverse.mp hx)).1 hl)
  refine wpAny_holding (wpAny_bind (wpAny_attempt (wpAny_holding (wpAny_run (codeAny_mono h₄ fun r s' hr => ?_)))))
  cases r with
  | ok f =>
    obtain ⟨m, hn, hr⟩ := hr
    exact wpAny_bind (wpAny_holding (wpAny_comp_letGo (cenv := { cenv with scope := relabel scope env }) hkind _ s' m hv hn fun h' m' _ hs' => wpAny_pure (hr h' hs')))
  | error x =>
    obtain ⟨m, hn, hr⟩ := hr
    exact wpAny_bind (wpAny_holding (wpAny_comp_letGo (cenv := { cenv with scope := relabel scope env }) hkind _ s' m hv hn fun h' m' _ hs' => wpAny_mono (hr h' hs') (fun _ _ f => f.elim) fun _ _ y => y))
end
theorem ff_but {G B h h' : Heap} : ∀ {l : List Env}, h.FunFrames B l → (∀ L ∈ frs l, G.get? L = none ∧ h'.get? L = h.get? L) → h'.FunFrames G l
  | [], _, _ => trivial
  | env :: l, h, hn => by
    obtain ⟨hk, ⟨L, o, hf, _, ho, hd⟩, hr⟩ := h
    have hm : L ∈ frs (env :: l) := List.mem_filterMap.mpr ⟨env, List.mem_cons_self, hf⟩
    refine ⟨hk, ⟨L, o, hf, (hn L hm).1, (hn L hm).2.trans ho, hd⟩, ff_but hr fun b hb => ?_⟩
    obtain ⟨e, he, q⟩ := List.mem_filterMap.mp hb
    exact hn b (List.mem_filterMap.mpr ⟨e, List.mem_cons_of_mem _ he, q⟩)
section
variable {X : Cx}
/-- what the block does with an exception -/
def errPost (X : Cx) (C : Addr) (e : Value) (s' : Shared) : Prop :=
  ∃ m, s'.heap.Ns C m ∧ ∀ h', Heap.SameBut C s'.heap h' → wpAny (model X.prog X.w) X.A (passOn "comprehension.variables-let-go" e X.env : Sem Value) (fun _ _ => False) X.xe { s' with heap := h' }
def blkXe (X : Cx) (C : Addr) : Value → Shared → Prop := notedBy (model X.prog X.w) X.A X.env (errPost X C)
abbrev BkX (X : Cx) (sc : Scope) (s1 : Shared) (H1 : Hp) (L : Addr) (cl : List (Str × Addr)) (fp : List Addr) : Cx := (Bk X sc s1 H1 L cl fp).tr [] (blkXe X L)
theorem toBkX {pins : List (Addr × Obj)} {τ : L2.St} {H H1 : Hp} {s s1 : Shared} {sc : Scope} {L : Addr} {cl : List (Str × Addr)} {fp : List Addr} (I : Inv (Bk X sc s1 H1 L cl fp) pins τ H s) : Inv (BkX X sc s1 H1 L cl fp) pins τ H s :=
  ⟨I.ok.toTry _ _, I.os, I.bare, I.base, I.loc, I.cell, I.free, I.freeC, I.pin, I.hok, I.len⟩
theorem ofBkX {pins : List (Addr × Obj)} {τ : L2.St} {H H1 : Hp} {s s1 : Shared} {sc : Scope} {L : Addr} {cl : List (Str × Addr)} {fp : List Addr} (I : Inv (BkX X sc s1 H1 L cl fp) pins τ H s) : Inv (Bk X sc s1 H1 L cl fp) pins τ H s :=
  ⟨Cx.Ok.ofTry (X := Bk X sc s1 H1 L cl fp) I.ok, I.os, I.bare, I.base, I.loc, I.cell, I.free, I.freeC, I.pin, I.hok, I.len⟩
/-- a callee's exception, in the block, is in the air around it -/
theorem blk_passes {pins : List (Addr × Obj)} {σ : L2.St} {H1 : Hp} {s1 : Shared} {sc : Scope} {C : Addr} {cl : List (Str × Addr)} {fp : List Addr} {E : XK} (hst : X.stack = X.env :: X.outer) (hf : X.env.frame = some X.env.locals)
    (tk : Takes X (fun cls d _ H => E cls d H)) (I1 : Inv X pins σ H1 s1) (hC : s1.heap.objs.size ≤ C) (hfp : ∀ b ∈ fp, FpOk X pins H1 b) : Passes (L2.CX X.prog X.w) (BkX X sc s1 H1 C cl fp) E := by
  rintro pj τ H s u s' J ⟨a, B, H', cls, d, rfl, fl, hok, ub, na, os, ag, hE⟩
  have B0 := ofBkX J
  have I := out_of I1 hfp B0
  have hfr : X.A.frames = some (X.env :: X.outer) := by rw [I.ok.frames, hst]
  have fl' : HandSPX.FlyingZ B (X.env :: X.outer) a (Zc cls d) s'.heap := hst ▸ fl
  have st0 : B.StaysIn s'.heap := fl.1
  have freeC : H C = none := B0.free
  -- C is no frame
  have nC : C ∉ frs X.stack := fun hm => by
    have := (B0.ok.funs.mem hm)
    obtain ⟨_, o, e, _⟩ := this
    exact absurd (Nat.lt_of_lt_of_le (Heap.lt_size e) hC) (Nat.lt_irrefl _)
  obtain ⟨mC, ⟨oC, esC, epC, hoC, rC⟩, _⟩ := id B0.loc
  have hoC' : s.heap.get? C = some oC := hoC
  have BC : B.get? C = some oC := ub.keep C oC hoC' freeC nC
  have naC : H' C = none := ub.free C oC hoC' freeC
  have aC : a ≠ C := fun e => by
    have z := fl.2.1
    rw [e, BC] at z
    cases z
  refine HandSPX.looks_onZ (env := X.env) (outer := X.outer) Zc.steady hfr hf fl' fun h1 held up1 => ?_
  refine ⟨mC, ⟨oC, esC, epC, held.1 C oC BC, rC⟩, fun h2 sb => ?_⟩
  obtain ⟨G, g1, g2⟩ := restrict B fun b => decide (b ≠ C)
  have gB : ∀ b o, G.get? b = some o → b ≠ C ∧ B.get? b = some o := fun b o e => by
    by_cases hb : b = C
    · rw [g2 b (by simp [hb])] at e
      cases e
    · rw [g1 b (by simp [hb])] at e
      exact ⟨hb, e⟩
  have Gb : ∀ b o, b ≠ C → B.get? b = some o → G.get? b = some o := fun b o hb e => by
    rw [g1 b (by simp [hb])]
    exact e
  have Gn : ∀ b, B.get? b = none → G.get? b = none := fun b e => by
    cases q : G.get? b with
    | none => rfl
    | some o =>
      rw [(gB b o q).2] at e
      cases e
  have held2 : HandSPX.HeldZ G (X.env :: X.outer) a (Zc cls d) X.env.locals h2 := by
    obtain ⟨x1, x2, x3, oe, vs, T, oT, ts, he, hz, hd, h1', hnT, hTe, hT, hdT, h3⟩ := held
    have TC : T ≠ C := fun e => by
      rw [e, BC] at hnT
      cases hnT
    refine ⟨fun b o e => ?_, Gn a x2, ff_but x3 fun L hL => ?_, oe, vs, T, oT, ts, (sb.2 a aC).trans he, hz, hd, h1', Gn T hnT, hTe, (sb.2 T TC).trans hT, hdT, h3⟩
    · obtain ⟨hb, e'⟩ := gB b o e
      exact (sb.2 b hb).trans (x1 b o e')
    · have z := (x3.mem hL).1
      have nL : L ≠ C := fun e => nC (hst ▸ e ▸ hL)
      exact ⟨Gn L z, sb.2 L nL⟩
  show wpAny (model X.prog X.w) X.A (passOn "comprehension.variables-let-go" (.ref a) X.env : Sem Value) (fun _ _ => False) X.xe { s' with heap := h2 }
  obtain ⟨k1, k2, k3, oe, vs, T, oT, ts', he, hz, hd, h1', hr⟩ := id held2
  unfold PySem.passOn
  refine wpAny_bind (wpAny_field he hd h1' ?_)
  rw [if_neg (show ¬ ((Value.ref T == Value.none) = true) from by simp)]
  have fin : wpAny (model X.prog X.w) X.A (setFlight (.ref a) X.env.frame) (fun _ s4 => wpAny (model X.prog X.w) X.A (throw (.ref a) : Sem Value) (fun _ _ => False) X.xe s4) X.xe { s' with heap := h2 } := by
    rw [hf]
    refine HandSPX.setFlight_onZ held2 fun h4 hh4 up4 => wpAny_throw (tk _ _ ?_)
    -- the state without it
    obtain ⟨G2, q1, q2⟩ := restrict s'.heap fun b => ((B.get? b).isSome || decide (b ∈ frs X.stack))
    have gB2 : ∀ b o, B.get? b = some o → G2.get? b = some o := fun b o e => by
      rw [q1 b (by simp [e])]
      exact st0 b o e
    have gF : ∀ b, b ∈ frs X.stack → G2.get? b = s'.heap.get? b := fun b hb => q1 b (by simp [hb])
    have og : ∀ b o, G2.get? b = some o → s'.heap.get? b = some o ∧ ((B.get? b).isSome = true ∨ b ∈ frs X.stack) := fun b o e => by
      cases q : ((B.get? b).isSome || decide (b ∈ frs X.stack)) with
      | false => rw [q2 b q] at e; cases e
      | true =>
        rw [q1 b q] at e
        exact ⟨e, by simpa [Bool.or_eq_true] using q⟩
    have I0 : Inv X pins σ H' { s with heap := G2, gens := s'.gens, drawn := s'.drawn, toks := s'.toks } := by
      refine I.call (ch := []) ⟨fun b o e n hb _ => gB2 b o (ub.keep b o e n hb), fun b o e n hb _ => ?_, fun b o e n _ => ub.free b o e n, fun b o e _ => ?_, ub.tups, ub.frzs, ub.tbls⟩ (hok.kept gB2) ag (fun _ z => nomatch z)
      · obtain ⟨sl, q⟩ := ub.slot b o e hb
        exact ⟨sl, by rw [gF b hb]; exact q⟩
      · by_cases hb : b ∈ frs X.stack
        · obtain ⟨sl, q⟩ := ub.slot b o e hb
          exact ⟨_, by rw [gF b hb]; exact q⟩
        · obtain ⟨o', q⟩ := ub.there b o e hb
          exact ⟨o', gB2 b o' q⟩
    obtain ⟨G3, r1, r2⟩ := restrict G2 fun b => decide (b ≠ C)
    have g3 : ∀ b o, G3.get? b = some o → b ≠ C ∧ G2.get? b = some o := fun b o e => by
      by_cases hb : b = C
      · rw [r2 b (by simp [hb])] at e
        cases e
      · rw [r1 b (by simp [hb])] at e
        exact ⟨hb, e⟩
    have fC := I1.fpOk (H' := H') hC naC
    have I3 : Inv X pins σ H' { s with heap := G3, gens := s'.gens, drawn := s'.drawn, toks := s'.toks } :=
      I0.turned (t' := s'.toks) (h' := G3) (it := C) (fun b o hb e => by rw [r1 b (by simp [hb])]; exact e) fC.1 fC.2.1 fC.2.2.2.1 fC.2.2.2.2.1 fC.2.2.2.2.2
    refine ⟨a, G, { s with heap := G3, gens := s'.gens, drawn := s'.drawn, toks := s'.toks }, pins, σ, H', cls, d, rfl, I3, fun b o e hb => ?_, fun b o e nf => ?_, .inr (.inr (by rw [hst]; exact hh4)), na, os, ag, hE⟩
    · obtain ⟨nb, e2⟩ := g3 b o e
      obtain ⟨e3, h⟩ := og b o e2
      rcases h with h | h
      · obtain ⟨o', q⟩ := Option.isSome_iff_exists.mp h
        have z := st0 b o' q
        rw [e3] at z
        cases z
        exact Gb b o nb q
      · exact absurd h hb
    · obtain ⟨nb, e2⟩ := g3 b o e
      obtain ⟨e3, _⟩ := og b o e2
      obtain ⟨sl, e4⟩ := up1 b o e3 nf
      obtain ⟨sl2, e5⟩ := up4 b _ ((sb.2 b nb).trans e4) nf
      exact ⟨sl2, e5⟩
  first
    | exact wpAny_bind (wpAny_pure (wpAny_bind fin))
    | exact wpAny_bind fin
end
end L2X
namespace L2X
open PySem PySem.Spec PyProof.Rows L2
section
variable {X : Cx}
theorem pe_lcX {elt tg iter : Expr} {sc : Scope} {own : List (Str × Nat)} {pos : Pos} {wi : TI} {g : TG} {te : TE} {E : XK}
    (hst : X.stack = X.env :: X.outer) (hf : X.env.frame = some X.env.locals) (tk : Takes X (fun cls d _ H => E cls d H)) (hc : X.calm = true) (hN : X.N.Nodup) (hi : PI X tg iter wi) (ok : BlkOk X.N X.env.scope sc own)
    (hg : ∀ (s1 : Shared) (H1 : Hp) (L : Addr) (cl : List (Str × Addr)) (fp : List Addr), PG (BkX X sc s1 H1 L cl fp) tg g)
    (he : ∀ (s1 : Shared) (H1 : Hp) (L : Addr) (cl : List (Str × Addr)) (fp : List Addr), Passes (L2.CX X.prog X.w) (BkX X sc s1 H1 L cl fp) E → PE (BkX X sc s1 H1 L cl fp) elt te)
    (hs : ∀ x, foldedSetIterable iter X.env x = pure x := by intro _; rfl) :
    PE X (.ListComp elt [⟨tg, iter, [], 0⟩] sc pos) (tLc wi g tYes te (own.map (·.2))) := by
  constructor
  intro pins s σ H Q I h
  rw [eval_ListComp]
  have freeIn : ∀ y ∈ sc.names, y.2 = .free → ∃ c, X.env.cells.lookup y.1 = some c := by
    intro y hy e
    cases ok.free y hy e with
    | inl k => exact I.ok.has _ (.inl k)
    | inr k => exact I.ok.has _ (.inr k)
  have uq : ∀ y ∈ sc.names, _ := fun y hy (e : y.2 = .local) => (ok.uniq y hy).trans (congrArg some e)
  apply comp_freeX rfl hs (closure_ok freeIn) ok.kind uq
  refine thn (hi.run pins s σ H _ I h) ?_
  intro xv sa hx
  refine thn hx ?_
  rintro itv sb ⟨it, fp, tn, J, Hb, rfl, Ib, T, stb, fb, rd⟩
  apply wpAny_newObj_type
  · apply newEnv_comp
    have newD : Hb sb.heap.objs.size = none := Ib.hok.fresh (Nat.le_refl _)
    obtain ⟨W, ⟨m0, w0⟩, tu⟩ := rd sb.heap.objs.size newD
    generalize eD : sb.heap.objs.size = D at newD w0 tu ⊢
    have objD : (sb.heap.push { cls := .type "list", data := .seq ([] : List Value).toArray }).get? D = some { cls := .type "list", data := .seq ([] : List Value).toArray } := by
      rw [← eD]
      exact Heap.get?_push_size _ rfl
    have Ic : Inv X pins σ (upd Hb D (.lst [])) { sb with heap := sb.heap.push { cls := .type "list", data := .seq ([] : List Value).toArray } } :=
      Ib.laid (t' := sb.toks) (fun b o e => Heap.get?_push_of_some _ e) (by rw [eD]; exact Nat.le_refl _) ⟨by show 0 ≤ sizeLine; decide, [], 0, .nil, objD⟩
    have stc : tn 0 (sb.heap.push { cls := .type "list", data := .seq ([] : List Value).toArray }) := T.keep _ _ _ stb fun b _ o e => Heap.get?_push_of_some _ e
    have fc : ∀ b ∈ fp, FpOk X pins (upd Hb D (.lst [])) b ∧ b < (sb.heap.push { cls := .type "list", data := .seq ([] : List Value).toArray }).objs.size := by
      intro b hb
      obtain ⟨o, e, _⟩ := T.obj _ _ stb b hb
      have lt := Heap.lt_size e
      have z := fb b hb
      constructor
      · refine ⟨?_, z.2⟩
        rw [upd_ne (show b ≠ D from Nat.ne_of_lt (eD ▸ lt))]
        exact z.1
      · rw [Heap.size_push]
        exact Nat.lt_succ_of_lt lt
    generalize eC : ({ sb with heap := sb.heap.push { cls := .type "list", data := .seq ([] : List Value).toArray } } : Shared) = sC at Ic
    have eCh : sb.heap.push { cls := .type "list", data := .seq ([] : List Value).toArray } = sC.heap := by rw [← eC]
    rw [eCh] at stc fc
    generalize eHc : upd Hb D (.lst []) = Hc at Ic fc w0
    have Id := block_start Ic ok hN fc
    generalize eCells : cellsFrom (sC.heap.objs.size + 1) sc.names (cloFrom X.env.cells sc.names []) = cl at Id ⊢
    change codeAny _ _ (.compStart (.ListComp elt [⟨tg, iter, [], 0⟩] sc pos) 0 (.ref it) (.ref D) (compEnvC sc cl sC.heap.objs.size X.env))
      (compPostX (model X.prog X.w) X.A X.xe (EP X pins σ Q) (.ref D) (compEnvC sc cl sC.heap.objs.size X.env)) _
    have gT := hg sC Hc sC.heap.objs.size cl fp
    have gE := he sC Hc sC.heap.objs.size cl fp (blk_passes hst hf tk Ic (Nat.le_refl _) fun b hb => (fc b hb).1)
    replace Id := toBkX Id
    have std : tn 0 (pushCells (sC.heap.push { cls := .type "dict", data := .dict #[] }) sc.names) :=
      T.keep _ _ _ stc fun b _ o e => pushCells_keeps _ _ _ _ (Heap.get?_push_of_some _ e)
    generalize eD4 : ({ sC with heap := pushCells (sC.heap.push { cls := .type "dict", data := .dict #[] }) sc.names } : Shared) = sD at Id ⊢
    have eDh : pushCells (sC.heap.push { cls := .type "dict", data := .dict #[] }) sc.names = sD.heap := by rw [← eD4]
    rw [eDh] at std
    have walk : codeAny (model X.prog X.w) X.A (.compLoop (.ListComp elt [⟨tg, iter, [], 0⟩] sc pos) 0 (.ref it) (.ref D) (compEnvC sc cl sC.heap.objs.size X.env))
        (compPostX (model X.prog X.w) X.A X.xe (EP X pins σ Q) (.ref D) (compEnvC sc cl sC.heap.objs.size X.env)) sD := by
      apply compLoop_any (fun n t => ∃ (i : Nat) (G : Hp), Inv (BkX X sc sC Hc sC.heap.objs.size cl fp) [] (wipe σ (own.map (·.2))) G t ∧ tn i t.heap ∧ (∀ b ∈ fp, G b = none) ∧ W i n G) _ m0
        ⟨0, Hc, Id, std, fun b hb => (fc b hb).1.1, w0⟩
      rintro n t ⟨i, G, It, tt, gn, wi⟩
      have fpB : ∀ {τ : L2.St} {G' : Hp} {t' : Shared}, Inv (BkX X sc sC Hc sC.heap.objs.size cl fp) [] τ G' t' → (∀ b ∈ fp, G' b = none) → ∀ b ∈ fp, FpOk (BkX X sc sC Hc sC.heap.objs.size cl fp) [] G' b := by
        intro τ G' t' B hn b hb
        have z := B.ok.exf b hb
        exact ⟨hn b hb, z.1, B.ok.exfs b hb, .inl hb, fun x c e => z.2 x c e, fun p hp => nomatch (show p ∈ ([] : List (Addr × Obj)) from hp)⟩
      rcases tu i n G wi with ⟨st, q⟩ | ⟨go, Nx, toW, step⟩
      · apply thnF (T.done (BkX X sc sC Hc sC.heap.objs.size cl fp) rfl rfl rfl hc i [] t _ G (fun _ _ => False) It (fpB It gn) tt st)
        rintro r u ⟨rfl, Iu⟩
        have Iout := out_of Ic (fun b hb => (fc b hb).1) (ofBkX Iu)
        obtain ⟨m, nsL, _⟩ := id Iu.loc
        have freeL : G sC.heap.objs.size = none := Iu.free
        refine ⟨m, nsL, fun h' sb' => ?_⟩
        have fL := Ic.fpOk (Nat.le_refl _) freeL
        exact ⟨.ref D, G, Iout.turned (t' := u.toks) (fun b o hb e => (sb'.2 b hb).trans e) fL.1 fL.2.1 fL.2.2.2.1 fL.2.2.2.2.1 fL.2.2.2.2.2, rfl, q⟩
      · apply thnF (T.item (BkX X sc sC Hc sC.heap.objs.size cl fp) rfl rfl rfl hc i [] t _ G (fun _ _ => False) It (fpB It gn) tt go)
        rintro r t1 ⟨u, rfl, hu⟩
        refine thnF hu ?_
        rintro _ t2 ⟨x, G2, I2, rx, yl, tt2, gn2⟩
        have Ip := I2.pinned (fpB I2 gn2) (T.obj _ _ tt2)
        refine wpAny_mono (gT.run _ t2 _ G2 x u _ Ip rx (step x G2 yl)) ?_ (fun _ _ he => he)
        rintro _ t3 ⟨τ, G3, I3, wq, q3⟩
        simp only [tYes, if_true] at q3
        apply wpAny_tests_nil
        simp only [if_true]
        refine wpAny_mono (gE.run _ t3 τ G3 _ I3 q3) ?_ (fun _ _ he => he)
        rintro z t4 ⟨y, G4, I4, ry, acc, accD, accL, nx⟩
        refine app_ok (X := BkX X sc sC Hc sC.heap.objs.size cl fp) I4 accD accL ry fun t5 I5 => ?_
        obtain ⟨m, lt, wm⟩ := toW _ nx
        have still : ∀ b ∈ fp, ∀ o, t2.heap.get? b = some o → t5.heap.get? b = some o ∧ (upd G4 D (.lst (acc ++ [y]))) b = none := by
          intro b hb o e
          have z := I5.pin (b, o) (List.mem_append_right _ (List.mem_append_right _ (mem_pinsAt hb e)))
          exact ⟨z.1, z.2.1⟩
        refine ⟨m, lt, i + 1, _, (I5.unpinned (pins := [])).weak ?_ fun j v e => ?_, T.keep _ _ _ tt2 fun b hb o e => (still b hb o e).1, fun b hb => ?_, wm⟩
        · rw [← wq, wipe_length]
        · rw [← wq] at e
          exact (wipe_some e).1
        · obtain ⟨o, e, _⟩ := T.obj _ _ tt2 b hb
          exact (still b hb o e).2
    exact codeAny_compStart_list walk (T.self X.A 0 _ _ _ std walk)
  · show 0 ≤ sizeLine
    decide
end
end L2X
namespace L2X
open PySem PySem.Spec PyProof.Rows L2
/-! ### comprehensions of two clauses, and of one, over anything -/
theorem lc2_by {J : It} {g : TG} {tt : TT} {wi1 : TI} {g1 : TG} {tt1 : TT} {te : TE} {vs vs1 : List Nat} {σ : L2.St} {H1 : Hp} {D : Addr} {Qd : Hp → Prop} (n : Nat) (Pv : Nat → Hp → Prop) (h0 : Pv 0 (upd H1 D (.lst [])))
    (hstop : ∀ H, Pv n H → J.stop n H) (hgo : ∀ i H, i < n → Pv i H → J.go i H)
    (hs : ∀ i x H H', i < n → Pv i H → J.yld i H x H' → g x (wipe σ vs) H' fun σ2 H2 => wipe σ2 vs = wipe σ vs ∧ tt σ2 H2 fun b H3 =>
      if b = true then wi1 σ2 H3 fun J1 H4 => ∃ W1 : Nat → Nat → Hp → Prop, (∃ m, W1 0 m H4) ∧ ∀ j k H, W1 j k H →
        (J1.stop j H ∧ Pv (i + 1) H) ∨ (J1.go j H ∧ ∃ Nx1 : Hp → Prop, (∀ H', Nx1 H' → ∃ k', k' < k ∧ W1 (j + 1) k' H') ∧ ∀ x H', J1.yld j H x H' → g1 x (wipe σ2 vs1) H' fun σ3 H5 => wipe σ3 vs1 = wipe σ2 vs1 ∧ tt1 σ3 H5 fun b H6 =>
          if b = true then te σ3 H6 fun y H7 => ∃ acc, H7 D = some (.lst acc) ∧ acc.length < sizeLine ∧ Nx1 (upd H7 D (.lst (acc ++ [y]))) else Nx1 H6)
      else Pv (i + 1) H3) (hd : ∀ H, Pv n H → Qd H) :
    ∃ W : Nat → Nat → Hp → Prop, (∃ m, W 0 m (upd H1 D (.lst []))) ∧ ∀ i m H, W i m H →
      (J.stop i H ∧ Qd H) ∨ (J.go i H ∧ ∃ Nx : Hp → Prop, (∀ H', Nx H' → ∃ m', m' < m ∧ W (i + 1) m' H') ∧ ∀ x H', J.yld i H x H' → g x (wipe σ vs) H' fun σ2 H2 => wipe σ2 vs = wipe σ vs ∧ tt σ2 H2 fun b H3 =>
        if b = true then wi1 σ2 H3 fun J1 H4 => ∃ W1 : Nat → Nat → Hp → Prop, (∃ m, W1 0 m H4) ∧ ∀ j k H, W1 j k H →
          (J1.stop j H ∧ Nx H) ∨ (J1.go j H ∧ ∃ Nx1 : Hp → Prop, (∀ H', Nx1 H' → ∃ k', k' < k ∧ W1 (j + 1) k' H') ∧ ∀ x H', J1.yld j H x H' → g1 x (wipe σ2 vs1) H' fun σ3 H5 => wipe σ3 vs1 = wipe σ2 vs1 ∧ tt1 σ3 H5 fun b H6 =>
            if b = true then te σ3 H6 fun y H7 => ∃ acc, H7 D = some (.lst acc) ∧ acc.length < sizeLine ∧ Nx1 (upd H7 D (.lst (acc ++ [y]))) else Nx1 H6)
        else Nx H3) := by
  refine ⟨fun i m H => m = n - i ∧ i ≤ n ∧ Pv i H, ⟨n, by simp, Nat.zero_le _, h0⟩, ?_⟩
  rintro i m H ⟨rfl, hi, p⟩
  by_cases hlt : i < n
  · exact .inr ⟨hgo i H hlt p, Pv (i + 1), fun H' p' => ⟨n - (i + 1), by omega, rfl, hlt, p'⟩, fun x H' y => hs i x H H' hlt p y⟩
  · have e : i = n := by omega
    subst e
    exact .inl ⟨hstop H p, hd H p⟩
theorem lc2_in {J1 : It} {g1 : TG} {tt1 : TT} {te : TE} {vs1 : List Nat} {σ2 : L2.St} {H4 : Hp} {D : Addr} {Nx : Hp → Prop} (n : Nat) (Pv : Nat → Hp → Prop) (h0 : Pv 0 H4) (hstop : ∀ H, Pv n H → J1.stop n H) (hgo : ∀ i H, i < n → Pv i H → J1.go i H)
    (hs : ∀ i x H H', i < n → Pv i H → J1.yld i H x H' → g1 x (wipe σ2 vs1) H' fun σ3 H5 => wipe σ3 vs1 = wipe σ2 vs1 ∧ tt1 σ3 H5 fun b H6 =>
      if b = true then te σ3 H6 fun y H7 => ∃ acc, H7 D = some (.lst acc) ∧ acc.length < sizeLine ∧ Pv (i + 1) (upd H7 D (.lst (acc ++ [y]))) else Pv (i + 1) H6) (hd : ∀ H, Pv n H → Nx H) :
    ∃ W1 : Nat → Nat → Hp → Prop, (∃ m, W1 0 m H4) ∧ ∀ j k H, W1 j k H →
      (J1.stop j H ∧ Nx H) ∨ (J1.go j H ∧ ∃ Nx1 : Hp → Prop, (∀ H', Nx1 H' → ∃ k', k' < k ∧ W1 (j + 1) k' H') ∧ ∀ x H', J1.yld j H x H' → g1 x (wipe σ2 vs1) H' fun σ3 H5 => wipe σ3 vs1 = wipe σ2 vs1 ∧ tt1 σ3 H5 fun b H6 =>
        if b = true then te σ3 H6 fun y H7 => ∃ acc, H7 D = some (.lst acc) ∧ acc.length < sizeLine ∧ Nx1 (upd H7 D (.lst (acc ++ [y]))) else Nx1 H6) := by
  refine ⟨fun i m H => m = n - i ∧ i ≤ n ∧ Pv i H, ⟨n, by simp, Nat.zero_le _, h0⟩, ?_⟩
  rintro i m H ⟨rfl, hi, p⟩
  by_cases hlt : i < n
  · exact .inr ⟨hgo i H hlt p, Pv (i + 1), fun H' p' => ⟨n - (i + 1), by omega, rfl, hlt, p'⟩, fun x H' y => hs i x H H' hlt p y⟩
  · have e : i = n := by omega
    subst e
    exact .inl ⟨hstop H p, hd H p⟩
end L2X
namespace Dt
open PySem PySem.Spec PyProof.Rows L2 L2X
open SX (S)
/-! ### dots -/
theorem smallT {n : Nat} (h : n < 100000) : n < sizeLine := Nat.lt_of_lt_of_le h (by decide)
def rowDots (r : Nat) (l : List Nat) : List (Nat × Nat) := (l.zipIdx.filter fun p => decide (p.1 = 35)).map fun p => (r, p.2)
def dotsP (rs : List (List Nat)) : List (Nat × Nat) := (rs.zipIdx.map fun p => rowDots p.2 p.1).flatten
theorem map_at {α β : Type} {f : α → β} {l : List α} {i : Nat} {y : β} (h : (l.map f)[i]? = some y) : ∃ x, l[i]? = some x ∧ y = f x := by
  rw [List.getElem?_map] at h
  cases e : l[i]? with
  | none =>
    rw [e] at h
    cases h
  | some z =>
    rw [e] at h
    exact ⟨z, rfl, (Option.some.inj h).symm⟩
theorem dotsP_snoc {rs : List (List Nat)} {i : Nat} {l : List Nat} (h : rs[i]? = some l) : dotsP (rs.take (i + 1)) = dotsP (rs.take i) ++ rowDots i l := by
  have hi : i < rs.length := (List.getElem?_eq_some_iff.mp h).1
  unfold dotsP
  rw [take_snoc h, List.zipIdx_append, List.map_append, List.flatten_append]
  have : (rs.take i).length = i := by
    rw [List.length_take]
    omega
  simp [this]
theorem rowDots_snoc {r : Nat} {l : List Nat} {j c : Nat} (h : l[j]? = some c) : rowDots r (l.take (j + 1)) = rowDots r (l.take j) ++ if c = 35 then [(r, j)] else [] := by
  have hj : j < l.length := (List.getElem?_eq_some_iff.mp h).1
  unfold rowDots
  rw [take_snoc h, List.zipIdx_append, List.filter_append, List.map_append]
  have : (l.take j).length = j := by
    rw [List.length_take]
    omega
  by_cases e : c = 35
  · simp [this, e]
  · simp [this, e]
theorem plc_one {K : PySem.W.Frag} {H : Hp} {xs : List V} {ps : List (Nat × Nat)} {D t : Addr} {r c : Nat} (h : Plc K H xs ps) (hD : H D = some (.lst xs)) (ht : H t = none) :
    Plc K (upd (upd H t (.tup [.int r, .int c])) D (.lst (xs ++ [.ref t]))) (xs ++ [.ref t]) (ps ++ [(r, c)]) := by
  have s := same_upd (o := .tup [V.int r, V.int c]) ht
  have one : Plc K (upd H t (.tup [V.int r, V.int c])) [V.ref t] [(r, c)] := ⟨rfl, fun i x pp hx hpp => by
    cases i with
    | zero =>
      cases hx
      cases hpp
      exact ⟨t, rfl, SqT.of upd_same⟩
    | succ i => exact nomatch hx⟩
  exact plc_upd ((h.same s).app one) (s _ _ hD)
abbrev sDots : Stmt := topS 26
theorem scDots : FnScope ["picture", "at", "row", "column", "sign"] ["picture"] (defScope sDots) := ⟨rfl, rfl, rfl, by decide +kernel, rfl, by decide +kernel, by decide +kernel⟩
def spDots (K : PySem.W.Frag) : Sp := fun vs H Q _ => ∃ (a : Addr) (high wide : Nat) (rs : List (List Nat)), vs = [.ref a] ∧ H a = some (.tup (rs.map rv)) ∧ PicR high wide rs ∧
  ∀ D xs H', Same H H' → H D = none → H' D = some (.lst xs) → Plc K H' xs (dotsP rs) → xs.length ≤ 7200 → Q (.ref D) H'
section
variable {P : Program} {w : World} {K : PySem.W.Frag} {mg : Str → Option Value} {base : Heap} {C CP : Addr}
theorem ok_dots {f : Addr} {fd : FuncData} {k : Nat} (F : Fun K "dots" "dots" sDots f fd) (en : mg "enumerate" = none) (G : GW P w K mg base C (k + 1)) : FnOk P w K mg base (L2.CX P w) (k + 2) f fd ["picture"] (spDots K) := by
  obtain ⟨fW, fdW, GW, mW, kW, bW⟩ := G.ex
  refine F.okX scDots (fun vs H Q E h => ?_) (fun cdv A outer s H vs Q E hr h => ?_)
  · obtain ⟨a, _, _, _, rfl, _⟩ := h
    rfl
  · obtain ⟨a, high, wide, rs, rfl, ha, pr, q⟩ := h
    have nd := scDots.nd
    refine ⟨_, pss_cons (ps_expr (pe_callS GW hr (by rfl) mW kW bW (fun σ => passAt (takes_of rfl rfl rfl rfl) σ) (pa_cons (pv 0) pa_nil)))
      (pss_one (ps_ret (pe_lc2 (own := [("at", 1), ("row", 2), ("column", 3), ("sign", 4)]) (vs1 := [3, 4]) (g := gTup K 2 (gCons (gName 1) (gCons (gName 2) gNil))) (tt := tYes) (wi1 := iEnumG K (tCons (tVar 2) tNil)) (g1 := gTup K 2 (gCons (gName 3) (gCons (gName 4) gNil))) rfl nd
        (pi_enumG (by rfl) en (pa_cons (pv 0) pa_nil)) (blkOk_by (N := ["picture", "at", "row", "column", "sign"]) (sc := defScope sDots) (by decide +kernel)) (by decide)
        (fun _ _ _ _ _ => pg_tup rfl (pgs_cons (pg_name (i := 1) nd rfl (Or.inl rfl)) (pgs_cons (pg_name (i := 2) nd rfl (Or.inl rfl)) pgs_nil))) (fun _ _ _ _ _ => pts_nil)
        (fun _ _ _ _ _ => pi_enumG (by rfl) en (pa_cons (pv 2) pa_nil))
        (fun _ _ _ _ _ => pg_tup rfl (pgs_cons (pg_name (i := 3) nd rfl (Or.inl rfl)) (pgs_cons (pg_name (i := 4) nd rfl (Or.inl rfl)) pgs_nil)))
        (fun _ _ _ _ _ => pts_one (pt_cmpR op_eq (pv 4) pe_str (nomark _))) (fun _ _ _ _ _ => pe_tup (pa_cons (pv 1) (pa_cons (pv 3) pa_nil)))))), ?_⟩
    refine ⟨.ref a, rfl, .ref a, true, rfl, askPic pr ha, fun _ H1 s1 => ?_, fun e => nomatch e⟩
    have ha1 := s1 _ _ ha
    have w1 := pr.w1
    have h1' := pr.h1
    have hlen := pr.len
    refine ⟨.ref a, rfl, .tup a, rs.map rv, rfl, SqT.of ha1, fun D hD => lc2_by rs.length (fun i H2 => Same H1 H2 ∧ ∃ xs, H2 D = some (.lst xs) ∧ Plc K H2 xs (dotsP (rs.take i)) ∧ xs.length ≤ i * 120) ?_ ?_ ?_ ?_ ?_⟩
    · exact ⟨same_upd hD, [], upd_same, ⟨rfl, fun i x p h => nomatch h⟩, Nat.zero_le _⟩
    · rintro H2 ⟨sm, _⟩
      exact ⟨_, SqT.of (sm _ _ ha1), List.length_map _⟩
    · rintro i H2 hi ⟨sm, _⟩
      exact ⟨_, _, SqT.of (sm _ _ ha1), List.getElem?_eq_getElem (by rw [List.length_map]; exact hi)⟩
    · rintro i x H2 H3 hi ⟨sm, xs, hx, pl, lx⟩ ⟨T, y, rfl, nT, rfl, hy⟩
      obtain ⟨l, hl, rfl⟩ := map_at (hy _ (SqT.of (sm _ _ ha1)))
      have l1 := (pr.row l (List.mem_of_getElem? hl)).len
      have sT := same_upd (o := .tup [V.int (i : Nat), rv l]) nT
      refine ⟨T, _, rfl, SqT.of upd_same, rfl, _, _, rfl, _, _, rfl, rfl, rfl, ?_⟩
      refine ⟨rv l, rfl, .txt (S l), chars (S l), rfl, rfl, lc2_in wide (fun j H4 => Same H1 H4 ∧ ∃ xs, H4 D = some (.lst xs) ∧ Plc K H4 xs (dotsP (rs.take i) ++ rowDots i (l.take j)) ∧ xs.length ≤ i * 120 + j) ?_ ?_ ?_ ?_ ?_⟩
      · exact ⟨sm.trans sT, xs, sT _ _ hx, by rw [List.take_zero]; show Plc K _ xs (dotsP (rs.take i) ++ []); rw [List.append_nil]; exact pl.same sT, lx⟩
      · rintro H4 _
        exact ⟨_, rfl, by rw [chars_S, List.length_map, l1]⟩
      · rintro j H4 hj _
        exact ⟨_, _, rfl, List.getElem?_eq_getElem (by rw [chars_S, List.length_map, l1]; exact hj)⟩
      · rintro j x H4 H5 hj ⟨sm4, ys, hys, pl4, ly⟩ ⟨T2, z, rfl, nT2, rfl, hz⟩
        have hz' := hz _ rfl
        rw [chars_S] at hz'
        obtain ⟨c, hc, rfl⟩ := map_at hz'
        have sT2 := same_upd (o := .tup [V.int (j : Nat), V.str ⟨#[c]⟩]) nT2
        refine ⟨T2, _, rfl, SqT.of upd_same, rfl, _, _, rfl, _, _, rfl, rfl, rfl, .str ⟨#[c]⟩, rfl, rfl, _, rfl, ?_⟩
        have e1 : decide (V.str ⟨#[c]⟩ = V.str "#") = decide (c = 35) := by
          rw [s_hash]
          exact ch_dec c 35
        rw [e1, rowDots_snoc hc]
        have hys5 := sT2 _ _ hys
        have nD : D ≠ T2 := fun e => by
          rw [e, nT2] at hys
          cases hys
        by_cases ec : c = 35
        · rw [decide_eq_true ec, if_pos ec]
          refine iteT ⟨.int i, rfl, .int j, rfl, by show 2 ≤ sizeLine; decide, fun t ht => ⟨ys, ?_, smallT (by omega), ?_, ys ++ [.ref t], upd_same, ?_, ?_⟩⟩
          · rw [upd_ne (ne_of_none hys5 ht)]
            exact hys5
          · exact same_over ((sm4.trans sT2).trans (same_upd ht)) hD
          · rw [← List.append_assoc]
            exact plc_one (pl4.same sT2) hys5 ht
          · rw [List.length_append, List.length_singleton]
            omega
        · rw [decide_eq_false ec, if_neg ec, List.append_nil]
          exact iteF ⟨sm4.trans sT2, ys, hys5, pl4.same sT2, by omega⟩
      · rintro H4 ⟨sm4, ys, hys, pl4, ly⟩
        have e : l.take wide = l := List.take_of_length_le (by omega)
        rw [e, ← dotsP_snoc hl] at pl4
        exact ⟨sm4, ys, hys, pl4, by omega⟩
    · rintro H2 ⟨sm, xs, hx, pl, lx⟩
      rw [List.take_length] at pl
      exact q D xs H2 (s1.trans sm) (s1.free hD) hx pl (by omega)
end
end Dt
/-! a list or a tuple walked, one rule for both -/
namespace L2X
open PySem PySem.Spec PyProof.Rows L2
/-- at a stands a list (true) or a tuple (false) of xs -/
def Sq (K : PySem.W.Frag) (H : Hp) (b : Bool) (a : Addr) (xs : List V) : Prop := match b with
  | true => SqL K H a xs
  | false => SqT K H a xs
theorem sameT0 {K : PySem.W.Frag} {H H' : Hp} {a : Addr} {xs : List V} (e : Same H H') (h : SqT K H a xs) : SqT K H' a xs := by
  rcases h with (h | ⟨o, h⟩) | h
  · exact .inl (.inl (e _ _ h))
  · exact .inl (.inr ⟨o, e _ _ h⟩)
  · exact .inr h
theorem Sq.same {K : PySem.W.Frag} {H H' : Hp} {b : Bool} {a : Addr} {xs : List V} (h : Sq K H b a xs) (s : Same H H') : Sq K H' b a xs := by
  cases b with
  | true => exact s.seq h
  | false => exact sameT0 s h
def Its (K : PySem.W.Frag) (b : Bool) (a : Addr) : It := match b with
  | true => Itl K a
  | false => Itt K a
def iSq (K : PySem.W.Frag) (tl : TE) : TI := fun σ H R => tl σ H fun x H1 => ∃ b a xs, x = .ref a ∧ Sq K H1 b a xs ∧ R (Its K b a) H1
theorem pi_sq {X : Cx} {tg l : Expr} {tl : TE} (hl : PE X l tl) : PI X tg l (iSq X.K tl) := by
  refine ⟨fun pins s σ H R I h => ?_⟩
  refine thn (hl.run pins s σ H _ I h) fun v s1 ⟨x, H1, I1, r1, q1⟩ => ?_
  obtain ⟨b, a, xs, e, hq, q⟩ := q1
  subst e
  cases r1
  cases b with
  | true =>
    obtain ⟨its, rv, p, hz⟩ := I1.list hq
    refine wpAny_pyIter_list p.isList ?_
    refine ⟨s1.heap.objs.size, [s1.heap.objs.size], _, _, H1, rfl, I1.kept (t' := s1.toks) fun b o e => Heap.get?_push_of_some _ e, turn_list a _, ⟨_, Heap.get?_push_size _ rfl, rfl, rfl⟩, fun b hb => ?_, q⟩
    have e : b = s1.heap.objs.size := by simpa using hb
    subst e
    exact I1.fpOk (Nat.le_refl _) (I1.hok.fresh (Nat.le_refl _))
  | false =>
    obtain ⟨its, rv, p, hz⟩ := I1.tuple hq
    refine wpAny_pyIter_tuple (show s1.heap.IsTuple a its.toArray from p) ?_
    refine ⟨s1.heap.objs.size, [s1.heap.objs.size], _, _, H1, rfl, I1.kept (t' := s1.toks) fun b o e => Heap.get?_push_of_some _ e, turn_tuple a _, ⟨_, Heap.get?_push_size _ rfl, rfl, rfl⟩, fun b hb => ?_, q⟩
    have e : b = s1.heap.objs.size := by simpa using hb
    subst e
    exact I1.fpOk (Nat.le_refl _) (I1.hok.fresh (Nat.le_refl _))
theorem lc_sq {K : PySem.W.Frag} {b : Bool} {a : Addr} {xs : List V} {g : TG} {tt : TT} {te : TE} {vs : List Nat} {σ : L2.St} {H1 : Hp} {D : Addr} {Qd : Hp → Prop} (Pv : Nat → Hp → Prop) (h0 : Pv 0 (upd H1 D (.lst []))) (hl : ∀ i H, i ≤ xs.length → Pv i H → Sq K H b a xs)
    (hs : ∀ i x H, xs[i]? = some x → Pv i H → g x (wipe σ vs) H fun σ2 H2 => wipe σ2 vs = wipe σ vs ∧ tt σ2 H2 fun b H3 =>
      if b = true then te σ2 H3 fun y H4 => ∃ acc, H4 D = some (.lst acc) ∧ acc.length < sizeLine ∧ Pv (i + 1) (upd H4 D (.lst (acc ++ [y]))) else Pv (i + 1) H3) (hd : ∀ H, Pv xs.length H → Qd H) :
    ∃ W : Nat → Nat → Hp → Prop, (∃ m, W 0 m (upd H1 D (.lst []))) ∧ ∀ i m H, W i m H →
      ((Its K b a).stop i H ∧ Qd H) ∨ ((Its K b a).go i H ∧ ∃ Nx : Hp → Prop, (∀ H', Nx H' → ∃ m', m' < m ∧ W (i + 1) m' H') ∧ ∀ x H', (Its K b a).yld i H x H' → g x (wipe σ vs) H' fun σ2 H2 => wipe σ2 vs = wipe σ vs ∧ tt σ2 H2 fun b H3 =>
        if b = true then te σ2 H3 fun y H4 => ∃ acc, H4 D = some (.lst acc) ∧ acc.length < sizeLine ∧ Nx (upd H4 D (.lst (acc ++ [y]))) else Nx H3) := by
  cases b with
  | true => exact lc_list Pv h0 hl hs hd
  | false => exact lc_tup Pv h0 hl hs hd
end L2X
namespace Dt
open PySem PySem.Spec PyProof.Rows L2 L2X
open SX (S)
/-! ### what a def promises, in one -/
/-- a def of the text as it stands behind the top -/
structure Df (K : PySem.W.Frag) (mg : Str → Option Value) (nm : Str) (st : Stmt) (ps : List Str) : Prop where
  ex : ∃ f fd, Fun K nm nm st f fd ∧ mg nm = some (.ref f) ∧ Binds K fd ps []
/-- .. with its promise -/
structure Pm (P : Program) (w : World) (K : PySem.W.Frag) (mg : Str → Option Value) (base : Heap) (CX : CXT) (k : Nat) (nm : Str) (ps : List Str) (sp : Sp) : Prop where
  ex : ∃ f fd, FnOk P w K mg base CX k f fd ps sp ∧ mg nm = some (.ref f) ∧ PySem.W.keepIn K (.ref f) = true ∧ Binds K fd ps []
theorem Pm.of {P : Program} {w : World} {K : PySem.W.Frag} {mg : Str → Option Value} {base : Heap} {CX : CXT} {k : Nat} {nm : Str} {st : Stmt} {ps : List Str} {sp : Sp} (d : Df K mg nm st ps) (h : ∀ f fd, Fun K nm nm st f fd → FnOk P w K mg base CX k f fd ps sp) : Pm P w K mg base CX k nm ps sp := by
  obtain ⟨f, fd, F, m, b⟩ := d.ex
  exact ⟨f, fd, h f fd F, m, F.kp, b⟩
/-! ### parts -/
def strB (x y : V) (n : Int) : Bool := match y with
  | .int m => decide (1 ≤ m) && betw x 0 (n - m)
  | _ => false
theorem strB_no {x y : V} {n : Int} (h : isInt y = false) : strB x y n = false := by
  cases y with
  | int i => cases h
  | _ => rfl
theorem strB_true {x y : V} {n : Nat} (h : strB x y (n : Int) = true) : ∃ t m : Nat, x = .int t ∧ y = .int m ∧ 1 ≤ m ∧ t + m ≤ n := by
  cases y with
  | int m =>
    unfold strB at h
    rw [Bool.and_eq_true, decide_eq_true_iff] at h
    obtain ⟨h1, h2⟩ := h
    cases x with
    | int t =>
      rw [betw_int, Bool.and_eq_true, decide_eq_true_iff, decide_eq_true_iff] at h2
      refine ⟨t.toNat, m.toNat, ?_, ?_, by omega, by omega⟩
      · rw [Int.toNat_of_nonneg h2.1]
      · rw [Int.toNat_of_nonneg (by omega)]
    | _ => cases h2
  | _ => cases h
def cutR (rs : List (List Nat)) (t l h w : Nat) : List (List Nat) := ((rs.drop t).take h).map fun r => (r.drop l).take w
theorem cutV_mid (xs : List V) (t h : Nat) (b : t + h ≤ xs.length) : cutV xs (some (t : Int)) (some ((t : Int) + (h : Int))) = (xs.drop t).take h := by
  have e : ((t : Int) + (h : Int)) = ((t + h : Nat) : Int) := by omega
  unfold cutV
  rw [e, HT.sIx_nat, HT.sIx_nat, Nat.min_eq_left b, Nat.min_eq_left (by omega), Nat.add_sub_cancel_left]
theorem cutS_mid (l : List Nat) (t h : Nat) (b : t + h ≤ l.length) : cutS (S l) (some (t : Int)) (some ((t : Int) + (h : Int))) = S ((l.drop t).take h) := by
  have e : ((t : Int) + (h : Int)) = ((t + h : Nat) : Int) := by omega
  unfold cutS
  rw [e, SX.S_len, HT.sIx_nat, HT.sIx_nat, Nat.min_eq_left b, Nat.min_eq_left (by omega), Nat.add_sub_cancel_left]
abbrev sStr : Stmt := topS 28
theorem scStr : FnScope ["start", "many", "whole"] ["start", "many", "whole"] (defScope sStr) := ⟨rfl, rfl, rfl, by decide +kernel, rfl, by decide +kernel, by decide +kernel⟩
def spStr (K : PySem.W.Frag) : Sp := fun vs H Q _ => ∃ x y n, vs = [x, y, .int n] ∧ Kt K H x ∧ Kt K H y ∧ Q (.bl (strB x y n)) H
abbrev sCut : Stmt := topS 27
theorem scCut : FnScope ["picture", "top", "left", "high", "wide", "rows", "columns", "row"] ["picture", "top", "left", "high", "wide"] (defScope sCut) := ⟨rfl, rfl, rfl, by decide +kernel, rfl, by decide +kernel, by decide +kernel⟩
def spCut (K : PySem.W.Frag) (CP : Addr) : Sp := fun vs H Q E => ∃ (a : Addr) (high wide : Nat) (rs : List (List Nat)) (x1 x2 x3 x4 : V), vs = [.ref a, x1, x2, x3, x4] ∧ H a = some (.tup (rs.map rv)) ∧ PicR high wide rs ∧ Kt K H x1 ∧ Kt K H x2 ∧ Kt K H x3 ∧ Kt K H x4 ∧
  ((strB x1 x3 high && strB x2 x4 wide) = true → ∀ t l h w : Nat, x1 = .int t → x2 = .int l → x3 = .int h → x4 = .int w → t + h ≤ high → l + w ≤ wide → 1 ≤ h → 1 ≤ w → ∀ p H', Same H H' → H p = none → H' p = some (.tup ((cutR rs t l h w).map rv)) → Q (.ref p) H') ∧
  ((strB x1 x3 high && strB x2 x4 wide) = false → ∀ H', Same H H' → E (.ref CP) none H')
section
variable {P : Program} {w : World} {K : PySem.W.Frag} {mg : Str → Option Value} {base : Heap} {C CP : Addr}
theorem ok_str {f : Addr} {fd : FuncData} {k : Nat} (F : Fun K "_is_stretch" "_is_stretch" sStr f fd) (GI : Pm P w K mg base CX0 (k + 1) "is_number" ["thing"] (spIsNum K)) (GB : Pm P w K mg base CX0 (k + 2) "is_between" ["thing", "least", "most"] (spBetw K)) : FnOk P w K mg base CX0 (k + 3) f fd ["start", "many", "whole"] (spStr K) := by
  obtain ⟨fI, fdI, GI, mI, kI, bI⟩ := GI.ex
  obtain ⟨fB, fdB, GB, mB, kB, bB⟩ := GB.ex
  refine F.ok scStr (fun vs H Q E h => ?_) (fun cdv A outer s H vs Q E hr h => ?_)
  · obtain ⟨x, y, n, rfl, _⟩ := h
    rfl
  · obtain ⟨x, y, n, rfl, kx, ky, q⟩ := h
    have hr1 : Room (k + 1) _ := hr.mono (by omega)
    refine ⟨_, pss_one (ps_ret (pe_and (pe_call GI hr1 (by rfl) mI kI bI .nil pass0 (pa_cons (pv 1) pa_nil)) (pe_and (pe_cmpR op_ge (pv 1) pe_int (nomark _)) (pe_one (pe_call GB hr (by rfl) mB kB bB .nil pass0 (pa_cons (pv 0) (pa_cons pe_int (pa_cons (pe_op op_sub (pv 2) (pv 1)) pa_nil)))))))), ?_⟩
    refine ⟨y, rfl, y, rfl, ky, _, rfl, ?_⟩
    cases y with
    | int m =>
      refine iteT ⟨.int m, rfl, m, 1, rfl, rfl, _, rfl, ite2 (fun e => ?_) (fun e => ?_)⟩
      · refine ⟨x, rfl, .int n, rfl, .int m, rfl, n, m, rfl, rfl, x, 0, n - m, rfl, kx, ?_⟩
        have e2 : strB x (.int m) n = betw x 0 (n - m) := by
          show (decide (1 ≤ m) && betw x 0 (n - m)) = _
          have : decide (1 ≤ m) = true := e
          rw [this, Bool.true_and]
        rw [e2] at q
        exact q
      · have e2 : strB x (.int m) n = false := by
          show (decide (1 ≤ m) && betw x 0 (n - m)) = _
          have : decide (1 ≤ m) = false := Bool.eq_false_iff.mpr e
          rw [this, Bool.false_and]
        rw [e2] at q
        exact q
    | _ => exact iteF q
theorem ok_cut {f : Addr} {fd : FuncData} {k : Nat} (F : Fun K "cut_out" "cut_out" sCut f fd) (X : Tx mg) (NP : ExN K mg "NoPlace" CP) (GZ : GS P w K mg base C (k + 3)) (GI : Pm P w K mg base CX0 (k + 3) "_is_stretch" ["start", "many", "whole"] (spStr K)) : FnOk P w K mg base (L2.CX P w) (k + 4) f fd ["picture", "top", "left", "high", "wide"] (spCut K CP) := by
  obtain ⟨fS, fdS, GS, mS, kS, bS⟩ := GZ.ex
  obtain ⟨fI, fdI, GI, mI, kI, bI⟩ := GI.ex
  refine F.okX scCut (fun vs H Q E h => ?_) (fun cdv A outer s H vs Q E hr h => ?_)
  · obtain ⟨a, _, _, _, x1, x2, x3, x4, rfl, _⟩ := h
    rfl
  · obtain ⟨a, high, wide, rs, x1, x2, x3, x4, rfl, ha, pr, k1, k2, k3, k4, q1, q2⟩ := h
    have nd := scCut.nd
    refine ⟨_, pss_cons (ps_asg (pe_callS GS hr (by rfl) mS kS bS (fun σ => passAt (takes_of rfl rfl rfl rfl) σ) (pa_cons (pv 0) pa_nil)) (pg_tup rfl (pgs_cons (pg_name (i := 5) nd rfl (Or.inl rfl)) (pgs_cons (pg_name (i := 6) nd rfl (Or.inl rfl)) pgs_nil))))
      (pss_cons (ps_if (PW.pt (pw_or (pt_not (pt_val (pe_call GI hr (by rfl) mI kI bI .nil pass0 (pa_cons (pv 1) (pa_cons (pv 3) (pa_cons (pv 5) pa_nil)))))) (pw_or1 (pt_not (pt_val (pe_call GI hr (by rfl) mI kI bI .nil pass0 (pa_cons (pv 2) (pa_cons (pv 4) (pa_cons (pv 6) pa_nil)))))))))
        (pss_one (ps_raise rfl (takes_of rfl rfl rfl rfl) (pmk_own PySem.F.excBase_ValueError NP.x NP.g NP.k (raises_own NP.b NP.t) rfl))) pss_nil)
      (pss_one (ps_ret (pe_callTy call_tuple_of (by rfl) X.tuple (by decide +kernel) (pa_cons (pe_lc (own := [("row", 7)]) (g := gName 7) (tt := tYes) rfl nd (pi_tup (pe_slice sl_tupA (pv 0) (po_some (pv 1)) (po_some (pe_op op_add (pv 1) (pv 3))))) (blkOk_by (N := ["picture", "top", "left", "high", "wide", "rows", "columns", "row"]) (sc := defScope sCut) (by decide +kernel)) (fun _ _ _ _ _ => pg_name (i := 7) nd rfl (Or.inl rfl)) (fun _ _ _ _ _ => pts_nil)
          (fun _ _ _ _ _ => pe_slice sl_str (pv 7) (po_some (pv 2)) (po_some (pe_op op_add (pv 2) (pv 4))))) pa_nil))))), ?_⟩
    have e1 := picSize pr
    refine ⟨.ref a, rfl, .ref a, rfl, .inr ⟨a, _, rfl, SqT.of ha, kn_rows pr, picOk_pic pr, fun p3 H3 s3 n3 h3 => ?_⟩⟩
    rw [e1.1, e1.2] at h3
    refine ⟨p3, _, rfl, SqT.of h3, rfl, _, _, rfl, _, _, rfl, rfl, x1, rfl, x3, rfl, .int high, rfl, x1, x3, high, rfl, k1.same s3, k3.same s3, _, rfl, ?_⟩
    cases b1 : strB x1 x3 high with
    | false =>
      refine iteT (iteT (q2 (by rw [b1]; rfl) _ s3))
    | true =>
      refine iteF ⟨x2, rfl, x4, rfl, .int wide, rfl, x2, x4, wide, rfl, k2.same s3, k4.same s3, _, rfl, ?_⟩
      cases b2 : strB x2 x4 wide with
      | false => exact iteT (q2 (by rw [b1, b2]; rfl) _ s3)
      | true =>
        refine iteF ?_
        obtain ⟨t, hh, rfl, rfl, hh1, hh2⟩ := strB_true b1
        obtain ⟨l, ww, rfl, rfl, ww1, ww2⟩ := strB_true b2
        have q := q1 (by rw [b1, b2]; rfl) t l hh ww rfl rfl rfl rfl hh2 ww2 hh1 ww1
        have hlen := pr.len
        refine ⟨.ref a, rfl, .int t, rfl, t, rfl, .int t, rfl, .int hh, rfl, t, hh, rfl, rfl, _, rfl, sl_any (s3 _ _ ha) fun z H4 s4 hz => ?_⟩
        rw [cutV_mid _ _ _ (by rw [List.length_map, hlen]; exact hh2), ← List.map_drop, ← List.map_take] at hz
        have s34 := s3.trans s4
        refine ⟨z, rfl, ⟨_, SqT.of hz⟩, fun D hD => lc_tup (K := K) (a := z) (xs := ((rs.drop t).take hh).map rv) (fun i H5 => Same H4 H5 ∧ H5 D = some (.lst (((((rs.drop t).take hh).take i).map fun r => (r.drop l).take ww).map rv))) ⟨same_upd hD, upd_same⟩ (fun i H5 _ zz => SqT.of (zz.1 _ _ hz)) ?_ ?_⟩
        · rintro i x H5 hi ⟨sm, h5⟩
          obtain ⟨r, hr, rfl⟩ := map_at hi
          have hm : r ∈ rs := List.mem_of_mem_drop (List.mem_of_mem_take (List.mem_of_getElem? hr))
          have lr := (pr.row r hm).len
          have w1 := pr.w1
          have h1' := pr.h1
          have hil : i < ((rs.drop t).take hh).length := (List.getElem?_eq_some_iff.mp hr).1
          rw [List.length_take, List.length_drop] at hil
          refine ⟨rfl, rv r, rfl, .int l, rfl, l, rfl, .int l, rfl, .int ww, rfl, l, ww, rfl, rfl, _, rfl, S r, rfl, ?_, ?_⟩
          · rw [SX.S_len]
            exact Nat.le_of_lt (small1000 (by omega))
          · rw [cutS_mid _ _ _ (by omega)]
            refine ⟨_, h5, ?_, same_over sm hD, ?_⟩
            · rw [List.length_map, List.length_map, List.length_take]
              exact smallT (by omega)
            · rw [upd_same, take_snoc hr, List.map_append, List.map_append]
              rfl
        · rintro H5 ⟨sm, h5⟩
          rw [List.length_map, List.take_length] at h5
          refine ⟨D, _, rfl, .inl ⟨SqL.of h5, fun p hp => ?_⟩⟩
          have sp := same_upd (o := .tup ((cutR rs t l hh ww).map rv)) hp
          exact q p _ ((s34.trans sm).trans sp) (s34.free (sm.free hp)) upd_same
end
end Dt
namespace Dt
open PySem PySem.Spec PyProof.Rows L2 L2X
open SX (S)
/-! ### quarters -/
def turn1 (rs : List (List Nat)) : List (List Nat) := (List.range (rs.headD []).length).map fun c => rs.reverse.map fun l => l.getD c 0
def turnK : Nat → List (List Nat) → List (List Nat)
  | 0, rs => rs
  | n + 1, rs => turn1 (turnK n rs)
/-- rows of signs, of any size that may come -/
structure BigR (high wide : Nat) (rs : List (List Nat)) : Prop where
  r : RowsR high wide rs
  h0 : 1 ≤ high
  h1 : high ≤ 120
  w0 : 1 ≤ wide
  w1 : wide ≤ 120
theorem PicR.big {high wide : Nat} {rs : List (List Nat)} (p : PicR high wide rs) : BigR high wide rs := ⟨p.rows, p.h0, Nat.le_trans p.h1 (by decide), p.w0, p.w1⟩
theorem BigR.head {high wide : Nat} {rs : List (List Nat)} (b : BigR high wide rs) : (rs.headD []).length = wide := by
  cases rs with
  | nil =>
    have := b.r.len
    have := b.h0
    simp at *
    omega
  | cons l r => exact (b.r.row l List.mem_cons_self).len
theorem getD_mem {l : List Nat} {c : Nat} (h : c < l.length) : l.getD c 0 ∈ l := by
  rw [getD_at (List.getElem?_eq_getElem h)]
  exact List.getElem_mem h
theorem BigR.turn {high wide : Nat} {rs : List (List Nat)} (b : BigR high wide rs) : BigR wide high (turn1 rs) := by
  refine ⟨⟨?_, fun l hl => ?_⟩, b.w0, b.w1, b.h0, b.h1⟩
  · unfold turn1
    rw [List.length_map, List.length_range, b.head]
  · unfold turn1 at hl
    obtain ⟨c, hc, rfl⟩ := List.mem_map.mp hl
    have hc' := List.mem_range.mp hc
    rw [b.head] at hc'
    refine ⟨by rw [List.length_map, List.length_reverse, b.r.len], fun x hx => ?_⟩
    obtain ⟨m, hm, rfl⟩ := List.mem_map.mp hx
    have rm := b.r.row m (List.mem_reverse.mp hm)
    exact rm.sg _ (getD_mem (by rw [rm.len]; exact hc'))
theorem BigR.turns {high wide : Nat} {rs : List (List Nat)} (b : BigR high wide rs) : ∀ n, ∃ h w, BigR h w (turnK n rs)
  | 0 => ⟨high, wide, b⟩
  | n + 1 => by
    obtain ⟨h, w, b'⟩ := b.turns n
    exact ⟨w, h, b'.turn⟩
def colsW (w : Nat) (rs : List (List Nat)) : List (List Nat) := (List.range w).map fun c => rs.map fun l => l.getD c 0
abbrev sCO : Stmt := topS 31
theorem scCO : FnScope ["rows", "signs"] ["rows"] (defScope sCO) := ⟨rfl, rfl, rfl, by decide +kernel, rfl, by decide +kernel, by decide +kernel⟩
def spCO : Sp := fun vs H Q _ => ∃ (a : Addr) (high wide : Nat) (rs : List (List Nat)), vs = [.ref a] ∧ H a = some (.tup (rs.map rv)) ∧ BigR high wide rs ∧ ∀ p H', Same H H' → H p = none → H' p = some (.lst ((colsW wide rs).map rv)) → Q (.ref p) H'
abbrev sTO : Stmt := topS 30
theorem scTO : FnScope ["rows"] ["rows"] (defScope sTO) := ⟨rfl, rfl, rfl, by decide +kernel, rfl, by decide +kernel, by decide +kernel⟩
def spTO : Sp := fun vs H Q _ => ∃ (a : Addr) (high wide : Nat) (rs : List (List Nat)), vs = [.ref a] ∧ H a = some (.tup (rs.map rv)) ∧ BigR high wide rs ∧ ∀ p H', Same H H' → H p = none → H' p = some (.tup ((turn1 rs).map rv)) → Q (.ref p) H'
abbrev sTrn : Stmt := topS 29
theorem scTrn : FnScope ["picture", "times", "columns", "quarters", "made", "_"] ["picture", "times"] (defScope sTrn) := ⟨rfl, rfl, rfl, by decide +kernel, rfl, by decide +kernel, by decide +kernel⟩
def spTrn (CP : Addr) : Sp := fun vs H Q E => ∃ (a : Addr) (high wide : Nat) (rs : List (List Nat)) (t : Int), vs = [.ref a, .int t] ∧ H a = some (.tup (rs.map rv)) ∧ PicR high wide rs ∧
  ((t % 4 % 2 = 1 ∧ 60 < wide) → ∀ H', Same H H' → E (.ref CP) none H') ∧ (¬ (t % 4 % 2 = 1 ∧ 60 < wide) → ∀ p H', Same H H' → H' p = some (.tup ((turnK (t % 4).toNat rs).map rv)) → Q (.ref p) H')
section
variable {P : Program} {w : World} {K : PySem.W.Frag} {mg : Str → Option Value} {base : Heap} {C CP : Addr}
theorem sgn_S (l : List Nat) (i : Nat) : sgn (S l) i = .str ⟨#[l.getD i 0]⟩ := by
  unfold sgn
  rw [List.getD_eq_getElem?_getD]
  simp [S]
theorem ok_CO {f : Addr} {fd : FuncData} {k : Nat} (F : Fun K "columns_of" "columns_of" sCO f fd) (X : Tx mg) (hz : mg "zip" = none) : FnOk P w K mg base CX0 (k + 1) f fd ["rows"] spCO := by
  refine F.ok scCO (fun vs H Q E h => ?_) (fun cdv A outer s H vs Q E hr h => ?_)
  · obtain ⟨a, _, _, _, rfl, _⟩ := h
    rfl
  · obtain ⟨a, high, wide, rs, rfl, ha, b, q⟩ := h
    have nd := scCO.nd
    refine ⟨_, pss_one (ps_ret (pe_lc (own := [("signs", 1)]) (g := gName 1) (tt := tYes) rfl nd (pi_zipS (by rfl) hz (pv 0)) (blkOk_by (N := ["rows", "signs"]) (sc := defScope sCO) (by decide +kernel)) (fun _ _ _ _ _ => pg_name (i := 1) nd rfl (Or.inl rfl)) (fun _ _ _ _ _ => pts_nil)
        (fun _ _ _ _ _ => pe_joinK (K := K) rfl pe_str (pv 1)))), ?_⟩
    have hp1 : H a = some (.tup ((rs.map S).map V.str)) := by
      rw [ha, List.map_map]
      rfl
    have hlen := b.r.len
    have h0 := b.h0
    have h1 := b.h1
    have w1 := b.w1
    have cl : (colsW wide rs).length = wide := by unfold colsW; rw [List.length_map, List.length_range]
    refine ⟨.ref a, rfl, a, rs.map S, rfl, .inl (SqT.of hp1), by rw [List.length_map]; omega, by rw [List.length_map]; omega, fun D hD => lc_zipN (n := wide) (by rw [List.length_map]; omega) (fun z hz' => ?_)
      (fun i H2 => Same H H2 ∧ H2 D = some (.lst (((colsW wide rs).take i).map rv))) ⟨same_upd hD, upd_same⟩ ?_ ?_⟩
    · obtain ⟨l, hl, rfl⟩ := List.mem_map.mp hz'
      have := (b.r.row l hl).len
      show (S l).length = wide
      rw [SX.S_len, this]
    · rintro i H2 T hi ⟨sm, h2⟩ nT
      have sT := same_upd (o := .tup ((rs.map S).map fun z => sgn z i)) nT
      have el : (colsW wide rs)[i]? = some (rs.map fun l => l.getD i 0) := by
        unfold colsW
        rw [List.getElem?_map, List.getElem?_range hi]
        rfl
      refine ⟨rfl, ⟨"", rfl⟩, .ref T, rfl, "", T, (rs.map fun l => l.getD i 0).map fun c => (⟨#[c]⟩ : Str), rfl, rfl, .inr (SqT.of ?_), ?_, ?_⟩
      · rw [upd_same, List.map_map, List.map_map, List.map_map]
        congr 2
        apply List.map_congr_left
        intro l _
        exact sgn_S l i
      · rw [lens_rows, List.length_map]
        show rs.length + _ * 0 ≤ 16777216
        omega
      · rw [join_row]
        refine ⟨_, sT _ _ h2, ?_, same_over (sm.trans sT) hD, ?_⟩
        · rw [List.length_map, List.length_take]
          exact smallT (by omega)
        · rw [upd_same, take_snoc el, List.map_append]
          rfl
    · rintro H2 ⟨sm, h2⟩
      have e : (colsW wide rs).take wide = colsW wide rs := List.take_of_length_le (by rw [cl]; exact Nat.le_refl _)
      rw [e] at h2
      exact q D _ sm hD h2
theorem BigR.rev {high wide : Nat} {rs : List (List Nat)} (b : BigR high wide rs) : BigR high wide rs.reverse :=
  ⟨⟨by rw [List.length_reverse]; exact b.r.len, fun l hl => b.r.row l (List.mem_reverse.mp hl)⟩, b.h0, b.h1, b.w0, b.w1⟩
theorem ok_TO {f : Addr} {fd : FuncData} {k : Nat} (F : Fun K "_turned_once" "_turned_once" sTO f fd) (X : Tx mg) (GC : Pm P w K mg base CX0 (k + 1) "columns_of" ["rows"] spCO) : FnOk P w K mg base CX0 (k + 2) f fd ["rows"] spTO := by
  obtain ⟨fC, fdC, GC, mC, kC, bC⟩ := GC.ex
  refine F.ok scTO (fun vs H Q E h => ?_) (fun cdv A outer s H vs Q E hr h => ?_)
  · obtain ⟨a, _, _, _, rfl, _⟩ := h
    rfl
  · obtain ⟨a, high, wide, rs, rfl, ha, b, q⟩ := h
    have nd := scTO.nd
    refine ⟨_, pss_one (ps_ret (pe_callTy call_tuple_of (by rfl) X.tuple (by decide +kernel) (pa_cons (pe_call GC hr (by rfl) mC kC bC .nil pass0 (pa_cons (pe_revT (pv 0)) pa_nil)) pa_nil))), ?_⟩
    refine ⟨.ref a, rfl, a, _, rfl, SqT.of ha, fun p hp => ?_⟩
    have s1 := same_upd (o := .tup (rs.map rv).reverse) hp
    have hp1 : (upd H p (.tup (rs.map rv).reverse)) p = some (.tup (rs.reverse.map rv)) := by
      rw [upd_same, ← List.map_reverse]
    have e : colsW wide rs.reverse = turn1 rs := by
      unfold colsW turn1
      rw [b.head]
    refine ⟨p, high, wide, rs.reverse, rfl, hp1, b.rev, fun D H2 sm hD h2 => ?_⟩
    rw [e] at h2
    exact ⟨D, _, rfl, .inl ⟨SqL.of h2, fun p2 hp2 => q p2 _ ((s1.trans sm).trans (same_upd hp2)) ((s1.trans sm).free hp2) upd_same⟩⟩
theorem ok_trn {f : Addr} {fd : FuncData} {k : Nat} (F : Fun K "turned" "turned" sTrn f fd) (X : Tx mg) (T : Tp mg) (NP : ExN K mg "NoPlace" CP) (GZ : GS P w K mg base C (k + 1)) (GI : Pm P w K mg base CX0 (k + 1) "is_number" ["thing"] (spIsNum K)) (GT : Pm P w K mg base CX0 (k + 1) "_turned_once" ["rows"] spTO) :
    FnOk P w K mg base (L2.CX P w) (k + 2) f fd ["picture", "times"] (spTrn CP) := by
  obtain ⟨fS, fdS, GS, mS, kS, bS⟩ := GZ.ex
  obtain ⟨fI, fdI, GI, mI, kI, bI⟩ := GI.ex
  obtain ⟨fT, fdT, GT, mT, kT, bT⟩ := GT.ex
  obtain ⟨tr, hmr⟩ := T.mr
  refine F.okX scTrn (fun vs H Q E h => ?_) (fun cdv A outer s H vs Q E hr h => ?_)
  · obtain ⟨a, _, _, _, t, rfl, _⟩ := h
    rfl
  · obtain ⟨a, high, wide, rs, t, rfl, ha, pr, q1, q2⟩ := h
    have nd := scTrn.nd
    refine ⟨_, pss_cons (ps_set (i := 2) nd rfl (.inl rfl) (pe_ix (r := rIxT K) ix_tup (pe_callS GS hr (by rfl) mS kS bS (fun σ => passAt (takes_of rfl rfl rfl rfl) σ) (pa_cons (pv 0) pa_nil)) pe_int (fun _ _ => rfl)))
      (pss_cons (ps_if (pt_not (pt_val (pe_call GI hr (by rfl) mI kI bI .nil pass0 (pa_cons (pv 1) pa_nil))))
        (pss_one (ps_raise rfl (takes_of rfl rfl rfl rfl) (pmk_own PySem.F.excBase_ValueError NP.x NP.g NP.k (raises_own NP.b NP.t) rfl))) pss_nil)
      (pss_cons (ps_set (i := 3) nd rfl (.inl rfl) (pe_op op_mod (pv 1) pe_int))
      (pss_cons (ps_if (PW.pt (pw_and (pt_cmpR op_eq (pe_op op_mod (pv 3) pe_int) pe_int (nomark _)) (pw_and1 (pt_cmpR op_gt (pv 2) (pe_glob (v := .int 60) (by rfl) hmr ⟨_, rfl⟩) (nomark _)))))
        (pss_one (ps_raise rfl (takes_of rfl rfl rfl rfl) (pmk_own PySem.F.excBase_ValueError NP.x NP.g NP.k (raises_own NP.b NP.t) rfl))) pss_nil)
      (pss_cons (ps_set (i := 4) nd rfl (.inl rfl) (pv 0))
      (pss_cons (ps_for (passes_of rfl) rfl (pi_range1 rfl X.range (pa_cons (pv 3) pa_nil)) (pg_name (i := 5) nd rfl (.inl rfl))
        (pss_one (ps_set (i := 4) nd rfl (.inl rfl) (pe_call GT hr (by rfl) mT kT bT .nil pass0 (pa_cons (pv 4) pa_nil)))))
      (pss_one (ps_ret (pv 4)))))))), ?_⟩
    have e1 := picSize pr
    refine ⟨.ref a, rfl, .ref a, rfl, .inr ⟨a, _, rfl, SqT.of ha, kn_rows pr, picOk_pic pr, fun p3 H3 s3 n3 h3 => ?_⟩⟩
    rw [e1.1, e1.2] at h3
    refine ⟨p3, _, 1, .int wide, rfl, rfl, SqT.of h3, atI_nat (j := 1) rfl, .int t, rfl, .int t, rfl, kt_int t, _, rfl, iteF ?_⟩
    have m0 : 0 ≤ t % 4 := Int.emod_nonneg _ (by decide)
    have m1 : t % 4 < 4 := Int.emod_lt_of_pos _ (by decide)
    refine ⟨.int t, rfl, t, 4, rfl, rfl, (by show (0 : Int) < 4; decide), ?_⟩
    refine ⟨.int (t % 4), rfl, t % 4, 2, rfl, rfl, (by show (0 : Int) < 2; decide), rfl, _, rfl, ?_⟩
    have hb := pr.big
    by_cases c1 : t % 4 % 2 = 1
    · refine iteY (decide_eq_true (congrArg V.int c1)) ⟨.int wide, rfl, wide, 60, rfl, rfl, _, rfl, ?_⟩
      by_cases c2 : 60 < wide
      · exact iteY (decide_eq_true (by show (60 : Int) < wide; omega)) (q1 ⟨c1, c2⟩ _ s3)
      · have ng : ¬ (t % 4 % 2 = 1 ∧ 60 < wide) := fun z => c2 z.2
        refine iteE (decide_eq_false (by show ¬ (60 : Int) < wide; omega)) ?_
        refine ⟨.ref a, rfl, .int (t % 4), rfl, t % 4, rfl, (by omega), (by omega), for_range (lo := 0) (n := (t % 4).toNat) (fun i σ H2 => Same H H2 ∧ ∃ p y5, σ = [some (.ref a), some (.int t), some (.int wide), some (.int (t % 4)), some (.ref p), y5] ∧ H2 p = some (.tup ((turnK i rs).map rv)))
      ⟨s3, a, none, rfl, s3 _ _ ha⟩ (fun i σ H2 hi z => by
        obtain ⟨sm, p, y5, rfl, hp⟩ := z
        obtain ⟨hh, ww, bb⟩ := hb.turns i
        exact ⟨.ref p, rfl, p, hh, ww, turnK i rs, rfl, hp, bb, fun p2 H4 s4 n4 h4 => ⟨sm.trans s4, p2, _, rfl, h4⟩⟩)
      (fun σ H2 z => by
        obtain ⟨sm, p, y5, rfl, hp⟩ := z
        exact ⟨.ref p, rfl, q2 ng p H2 sm hp⟩)⟩
    · have ng : ¬ (t % 4 % 2 = 1 ∧ 60 < wide) := fun z => c1 z.1
      refine iteE (decide_eq_false fun z => c1 (V.int.inj z)) ?_
      refine ⟨.ref a, rfl, .int (t % 4), rfl, t % 4, rfl, (by omega), (by omega), for_range (lo := 0) (n := (t % 4).toNat) (fun i σ H2 => Same H H2 ∧ ∃ p y5, σ = [some (.ref a), some (.int t), some (.int wide), some (.int (t % 4)), some (.ref p), y5] ∧ H2 p = some (.tup ((turnK i rs).map rv)))
      ⟨s3, a, none, rfl, s3 _ _ ha⟩ (fun i σ H2 hi z => by
        obtain ⟨sm, p, y5, rfl, hp⟩ := z
        obtain ⟨hh, ww, bb⟩ := hb.turns i
        exact ⟨.ref p, rfl, p, hh, ww, turnK i rs, rfl, hp, bb, fun p2 H4 s4 n4 h4 => ⟨sm.trans s4, p2, _, rfl, h4⟩⟩)
      (fun σ H2 z => by
        obtain ⟨sm, p, y5, rfl, hp⟩ := z
        exact ⟨.ref p, rfl, q2 ng p H2 sm hp⟩)⟩
end
end Dt
namespace Dt
open PySem PySem.Spec PyProof.Rows L2 L2X
open SX (S)
/-! ### rows moved -/
def spotsZ (l : List Nat) (s : Int) : List Int := ((List.range l.length).filter fun c => decide (l.getD c 0 = 35)).map fun c : Nat => (c : Int) + s
def inZ (n : Nat) (p : Int) : Bool := decide (0 ≤ p) && decide (p < (n : Int))
def movedL (l : List Nat) (s : Int) : List Nat := (List.range l.length).map fun c : Nat => if (c : Int) ∈ spotsZ l s then 35 else 46
def shiftL (l : List Nat) (s : Int) : Option (List Nat) := if (spotsZ l s).all (inZ l.length) then some (movedL l s) else none
theorem spots_mem {l : List Nat} {s p : Int} : p ∈ spotsZ l s ↔ ∃ c : Nat, c < l.length ∧ l.getD c 0 = 35 ∧ p = (c : Int) + s := by
  unfold spotsZ
  rw [List.mem_map]
  constructor
  · rintro ⟨c, hc, rfl⟩
    obtain ⟨h1, h2⟩ := List.mem_filter.mp hc
    exact ⟨c, List.mem_range.mp h1, of_decide_eq_true h2, rfl⟩
  · rintro ⟨c, h1, h2, rfl⟩
    exact ⟨c, List.mem_filter.mpr ⟨List.mem_range.mpr h1, decide_eq_true h2⟩, rfl⟩
theorem moved_len (l : List Nat) (s : Int) : (movedL l s).length = l.length := by
  unfold movedL
  rw [List.length_map, List.length_range]
theorem moved_at {l : List Nat} {s : Int} {c : Nat} (h : c < l.length) : (movedL l s)[c]? = some (if (c : Int) ∈ spotsZ l s then 35 else 46) := by
  unfold movedL
  rw [List.getElem?_map, List.getElem?_range h]
  rfl
theorem moved_row {wide : Nat} {l : List Nat} (s : Int) (h : RowR wide l) : RowR wide (movedL l s) := by
  refine ⟨by rw [moved_len, h.len], fun c hc => ?_⟩
  unfold movedL at hc
  obtain ⟨x, _, rfl⟩ := List.mem_map.mp hc
  split
  · exact .inl rfl
  · exact .inr rfl
theorem getD_some {l : List Nat} {c : Nat} (h : c < l.length) : l[c]? = some (l.getD c 0) := by
  rw [getD_at (List.getElem?_eq_getElem h)]
  exact List.getElem?_eq_getElem h
theorem shift_white {wide : Nat} {l : List Nat} {s : Int} (r : RowR wide l) (h : 35 ∉ l) : shiftL l s = some l := by
  have e : spotsZ l s = [] := by
    apply List.eq_nil_iff_forall_not_mem.mpr
    intro p hp
    obtain ⟨c, h1, h2, _⟩ := spots_mem.mp hp
    exact h (h2 ▸ List.mem_of_getElem? (getD_some h1))
  unfold shiftL
  rw [e]
  simp only [List.all_nil, if_true]
  congr 1
  apply List.ext_getElem?
  intro c
  by_cases hc : c < l.length
  · rw [moved_at hc, e, if_neg List.not_mem_nil, getD_some hc]
    rcases r.sg _ (List.mem_of_getElem? (getD_some hc)) with z | z
    · exact absurd (z ▸ List.mem_of_getElem? (getD_some hc)) h
    · rw [z]
  · rw [show (movedL l s)[c]? = none from List.getElem?_eq_none (by rw [moved_len]; omega), List.getElem?_eq_none (by omega)]
/-- first and last dot -/
structure Ends2 (l : List Nat) (f r : Nat) : Prop where
  fl : f < l.length
  fe : l.getD f 0 = 35
  fm : ∀ c, c < f → l.getD c 0 ≠ 35
  rl : r < l.length
  re : l.getD r 0 = 35
  rm : ∀ c, r < c → c < l.length → l.getD c 0 ≠ 35
theorem shift_in {l : List Nat} {s : Int} {f r : Nat} (e : Ends2 l f r) (h1 : 0 ≤ (f : Int) + s) (h2 : (r : Int) + s < l.length) : shiftL l s = some (movedL l s) := by
  unfold shiftL
  rw [if_pos]
  refine List.all_eq_true.mpr fun p hp => ?_
  obtain ⟨c, hc, hd, rfl⟩ := spots_mem.mp hp
  have g1 : ¬ c < f := fun z => e.fm c z hd
  have g2 : ¬ r < c := fun z => e.rm c z hc hd
  unfold inZ
  rw [decide_eq_true (by omega), decide_eq_true (by omega)]
  rfl
theorem shift_out {l : List Nat} {s : Int} {f r : Nat} (e : Ends2 l f r) (h : (f : Int) + s < 0 ∨ (r : Int) + s ≥ l.length) : shiftL l s = none := by
  unfold shiftL
  rw [if_neg]
  intro z
  have z' := List.all_eq_true.mp z
  have g1 := z' _ (spots_mem.mpr ⟨f, e.fl, e.fe, rfl⟩)
  have g2 := z' _ (spots_mem.mpr ⟨r, e.rl, e.re, rfl⟩)
  unfold inZ at g1 g2
  rw [Bool.and_eq_true, decide_eq_true_iff, decide_eq_true_iff] at g1 g2
  omega
theorem moved_left {wide : Nat} {l : List Nat} (R : RowR wide l) {n : Nat} (h : n ≤ l.length) : l.drop n ++ List.replicate n 46 = movedL l (-(n : Int)) := by
  apply List.ext_getElem?
  intro c
  by_cases hc : c < l.length
  · rw [moved_at hc]
    by_cases hb : c < l.length - n
    · rw [List.getElem?_append_left (by rw [List.length_drop]; omega), List.getElem?_drop, getD_some (show n + c < l.length by omega)]
      by_cases e : l.getD (n + c) 0 = 35
      · rw [if_pos (spots_mem.mpr ⟨n + c, by omega, e, by omega⟩), e]
      · rw [if_neg]
        · rcases R.sg _ (List.mem_of_getElem? (getD_some (show n + c < l.length by omega))) with z | z
          · exact absurd z e
          · rw [z]
        · intro z
          obtain ⟨x, hx, hd, hp⟩ := spots_mem.mp z
          have : x = n + c := by omega
          subst this
          exact e hd
    · rw [List.getElem?_append_right (by rw [List.length_drop]; omega), List.getElem?_replicate, if_pos (by rw [List.length_drop]; omega), if_neg]
      intro z
      obtain ⟨x, hx, hd, hp⟩ := spots_mem.mp z
      omega
  · rw [show (movedL l (-(n : Int)))[c]? = none from List.getElem?_eq_none (by rw [moved_len]; omega)]
    apply List.getElem?_eq_none
    rw [List.length_append, List.length_drop, List.length_replicate]
    omega
theorem moved_right {wide : Nat} {l : List Nat} (R : RowR wide l) {n : Nat} (h : n ≤ l.length) : List.replicate n 46 ++ l.take (l.length - n) = movedL l (n : Int) := by
  apply List.ext_getElem?
  intro c
  by_cases hc : c < l.length
  · rw [moved_at hc]
    by_cases hb : c < n
    · rw [List.getElem?_append_left (by rw [List.length_replicate]; exact hb), List.getElem?_replicate, if_pos hb, if_neg]
      intro z
      obtain ⟨x, hx, hd, hp⟩ := spots_mem.mp z
      omega
    · rw [List.getElem?_append_right (by rw [List.length_replicate]; omega), List.length_replicate, List.getElem?_take, if_pos (by omega), getD_some (show c - n < l.length by omega)]
      by_cases e : l.getD (c - n) 0 = 35
      · rw [if_pos (spots_mem.mpr ⟨c - n, by omega, e, by omega⟩), e]
      · rw [if_neg]
        · rcases R.sg _ (List.mem_of_getElem? (getD_some (show c - n < l.length by omega))) with z | z
          · exact absurd z e
          · rw [z]
        · intro z
          obtain ⟨x, hx, hd, hp⟩ := spots_mem.mp z
          have : x = c - n := by omega
          subst this
          exact e hd
  · rw [show (movedL l (n : Int))[c]? = none from List.getElem?_eq_none (by rw [moved_len]; omega)]
    apply List.getElem?_eq_none
    rw [List.length_append, List.length_replicate, List.length_take]
    omega
open Builtin Builtin.Str in
theorem at_one {l : List Nat} {i : Nat} : StrLaws.At (S l) (S [35]) (S l).length i ↔ i < l.length ∧ l.getD i 0 = 35 := by
  have e := StrLaws.subAt_one (S l) 35 i
  have e2 : StrLaws.At (S l) (S [35]) (S l).length i ↔ (S l).cps.toList[i]? = some 35 := e
  rw [e2]
  have e3 : (S l).cps.toList = l := by simp [S]
  rw [e3]
  constructor
  · intro h
    have hi := (List.getElem?_eq_some_iff.mp h).1
    exact ⟨hi, getD_at h⟩
  · rintro ⟨hi, h⟩
    rw [getD_some hi, h]
theorem rfind_end {l : List Nat} (h : 35 ∈ l) : ∃ r : Nat, Txt.rfind (S l) (S [35]) = (r : Int) ∧ r < l.length ∧ l.getD r 0 = 35 ∧ ∀ c, r < c → c < l.length → l.getD c 0 ≠ 35 := by
  obtain ⟨i, hi⟩ := List.mem_iff_getElem?.mp h
  have hil := (List.getElem?_eq_some_iff.mp hi).1
  rcases StrLaws.last_spec (S l) (S [35]) with ⟨_, z⟩ | ⟨r, e, a, m⟩
  · exact absurd (at_one.mpr ⟨hil, getD_at hi⟩) (z i)
  · obtain ⟨a1, a2⟩ := at_one.mp a
    refine ⟨r, ?_, a1, a2, fun c hc hl hd => m c hc (at_one.mpr ⟨hl, hd⟩)⟩
    unfold Txt.rfind
    rw [e]
theorem find_end {l : List Nat} (h : 35 ∈ l) : ∃ f : Nat, Txt.find (S l) (S [35]) = (f : Int) ∧ f < l.length ∧ l.getD f 0 = 35 ∧ ∀ c, c < f → l.getD c 0 ≠ 35 := by
  obtain ⟨i, hi⟩ := List.mem_iff_getElem?.mp h
  have hil := (List.getElem?_eq_some_iff.mp hi).1
  rcases StrLaws.occ_head (S l) (S [35]) 1 (Nat.le_refl _) with ⟨_, z⟩ | ⟨f, r, e, a, m⟩
  · exact absurd (at_one.mpr ⟨hil, getD_at hi⟩) (z i)
  · obtain ⟨a1, a2⟩ := at_one.mp a
    refine ⟨f, ?_, a1, a2, fun c hc hd => m c hc (at_one.mpr ⟨by omega, hd⟩)⟩
    unfold Txt.find
    rw [e]
end Dt
namespace Dt
open PySem PySem.Spec PyProof.Rows L2 L2X
open SX (S)
theorem mul_sign' (c n : Nat) : Txt.mul (S [c]) (n : Int) = S (List.replicate n c) := by
  by_cases h : 1 ≤ n
  · exact mul_sign c n h
  · have : n = 0 := by omega
    subst this
    rfl
theorem mul_ok' (c n : Nat) (h2 : n ≤ 120) : MulOk (S [c]) (n : Int) := by
  by_cases h : 1 ≤ n
  · exact mul_ok c n h h2
  · have : n = 0 := by omega
    subst this
    exact ⟨by decide, fun z => absurd (by decide) z, fun z => absurd (by decide) z⟩
theorem cutS_from (l : List Nat) (n : Nat) (h : n ≤ l.length) : cutS (S l) (some (n : Int)) none = S (l.drop n) := by
  unfold cutS
  rw [HT.sIx_none, SX.S_len, HT.sIx_nat, Nat.min_eq_left h]
  show (⟨((l.drop n).take (l.length - n)).toArray⟩ : Str) = _
  rw [List.take_of_length_le (by rw [List.length_drop]; omega)]
  try rfl
theorem cutS_to (l : List Nat) (n : Nat) (h : n ≤ l.length) : cutS (S l) none (some (n : Int)) = S (l.take n) := by
  unfold cutS
  rw [HT.sIx_none, SX.S_len, HT.sIx_nat, Nat.min_eq_left h]
  show (⟨((l.drop 0).take (n - 0)).toArray⟩ : Str) = _
  rw [List.drop_zero, Nat.sub_zero]
  try rfl
theorem app_S (a b : List Nat) : S a ++ S b = S (a ++ b) := by
  show Str.mk _ = Str.mk _
  congr 1
  simp [S]
abbrev sSR : Stmt := topS 33
theorem scSR : FnScope ["row", "step"] ["row", "step"] (defScope sSR) := ⟨rfl, rfl, rfl, by decide +kernel, rfl, by decide +kernel, by decide +kernel⟩
def spSR (CP : Addr) : Sp := fun vs H Q E => ∃ (l : List Nat) (s : Int) (wide : Nat), vs = [rv l, .int s] ∧ RowR wide l ∧ wide ≤ 120 ∧ (∀ m, shiftL l s = some m → Q (rv m) H) ∧ (shiftL l s = none → E (.ref CP) none H)
abbrev sShf : Stmt := topS 32
theorem scShf : FnScope ["picture", "steps", "rows", "step", "row"] ["picture", "steps"] (defScope sShf) := ⟨rfl, rfl, rfl, by decide +kernel, rfl, by decide +kernel, by decide +kernel⟩
def spShf (K : PySem.W.Frag) (CP : Addr) : Sp := fun vs H Q E => ∃ (a : Addr) (x : V) (high wide : Nat) (rs : List (List Nat)), vs = [.ref a, x] ∧ H a = some (.tup (rs.map rv)) ∧ PicR high wide rs ∧
  ((∃ T, TyB K H x T ∧ tyOk T = true ∧ T ≠ "list" ∧ T ≠ "tuple" ∧ ∀ H', Same H H' → E (.ref CP) none H') ∨
   (∃ (b : Bool) (q : Addr) (xs : List V), x = .ref q ∧ Sq K H b q xs ∧ xs.length ≤ 1000 ∧ (∀ y ∈ xs, Kt K H y) ∧ ¬ (xs.length = high ∧ xs.all isInt = true) ∧ ∀ H', Same H H' → E (.ref CP) none H') ∨
   (∃ (b : Bool) (q : Addr) (ns : List Int), x = .ref q ∧ Sq K H b q (ns.map V.int) ∧ ns.length = high ∧
     ((∀ p ∈ rs.zip ns, (shiftL p.1 p.2).isSome = true) → ∀ p H', Same H H' → H p = none → H' p = some (.tup (((rs.zip ns).map fun p => (shiftL p.1 p.2).getD []).map rv)) → Q (.ref p) H') ∧
     (¬ (∀ p ∈ rs.zip ns, (shiftL p.1 p.2).isSome = true) → ∀ H', Same H H' → E (.ref CP) none H')))
section
variable {P : Program} {w : World} {K : PySem.W.Frag} {mg : Str → Option Value} {base : Heap} {C CP : Addr}
theorem ok_SR {f : Addr} {fd : FuncData} {k : Nat} (F : Fun K "_shifted_row" "_shifted_row" sSR f fd) (X : Tx mg) (NP : ExN K mg "NoPlace" CP) : FnOk P w K mg base (L2.CX P w) (k + 1) f fd ["row", "step"] (spSR CP) := by
  refine F.okX scSR (fun vs H Q E h => ?_) (fun cdv A outer s H vs Q E hr h => ?_)
  · obtain ⟨l, s, _, rfl, _⟩ := h
    rfl
  · obtain ⟨l, st, wide, rfl, R, hw, q1, q2⟩ := h
    have nd := scSR.nd
    refine ⟨_, pss_cons (ps_if (pt_cmpR op_notIn_sign pe_str (pv 0) (by with_unfolding_all rfl)) (pss_one (ps_ret (pv 0))) pss_nil)
      (pss_cons (ps_if (PW.pt (pw_or (pt_cmpR op_lt (pe_op op_add (pe_m1 PySem.F.slot_str_find PySem.F.type_str_find mt_find (pv 0) pe_str) (pv 1)) pe_int (nomark _)) (pw_or1 (pt_cmpR op_ge (pe_op op_add (pe_m1 PySem.F.slot_str_rfind PySem.F.type_str_rfind mt_rfind (pv 0) pe_str) (pv 1)) (pe_callB call_len_str (by rfl) X.len PySem.boot_len (pa_cons (pv 0) pa_nil)) (nomark _)))))
        (pss_one (ps_raise rfl (takes_of rfl rfl rfl rfl) (pmk_own PySem.F.excBase_ValueError NP.x NP.g NP.k (raises_own NP.b NP.t) rfl))) pss_nil)
      (pss_cons (ps_if (pt_cmpR op_lt (pv 1) pe_int (nomark _)) (pss_one (ps_ret (pe_op op_add_str (pe_slice sl_str (pv 0) (po_some (pe_un un_neg (pv 1))) po_none) (pe_op op_mul_str pe_str (pe_un un_neg (pv 1)))))) pss_nil)
      (pss_one (ps_ret (pe_op op_add_str (pe_op op_mul_str pe_str (pv 1)) (pe_slice sl_str (pv 0) po_none (po_some (pe_op op_sub (pe_callB call_len_str (by rfl) X.len PySem.boot_len (pa_cons (pv 0) pa_nil)) (pv 1))))))))), ?_⟩
    have hl := R.len
    have e0 : (S l).cps.toList = l := by simp [S]
    have hz : (S l).length ≤ sizeLine := by
      rw [SX.S_len]
      exact Nat.le_of_lt (small1000 (by omega))
    refine ⟨rv l, rfl, 35, S l, congrArg V.str s_hash, rfl, _, rfl, ?_⟩
    rw [e0]
    by_cases hm : 35 ∈ l
    · rw [decide_eq_true hm]
      refine iteF ?_
      obtain ⟨f, hf, f1, f2, f3⟩ := find_end hm
      obtain ⟨r, hr', r1, r2, r3⟩ := rfind_end hm
      have en : Ends2 l f r := ⟨f1, f2, f3, r1, r2, r3⟩
      refine ⟨rv l, rfl, ⟨_, rfl⟩, S l, "#", rfl, rfl, .int st, rfl, _, st, rfl, rfl, _, 0, rfl, rfl, _, rfl, ?_⟩
      rw [s_hash, hf]
      have out : (f : Int) + st < 0 ∨ (r : Int) + st ≥ l.length → E (.ref CP) none H := fun z => q2 (shift_out en z)
      by_cases c1 : (f : Int) + st < 0
      · exact iteY (decide_eq_true c1) (out (.inl c1))
      · refine iteE (decide_eq_false c1) ?_
        refine ⟨rv l, rfl, ⟨_, rfl⟩, S l, "#", rfl, rfl, .int st, rfl, _, st, rfl, rfl, rv l, rfl, S l, rfl, hz, _, _, rfl, rfl, _, rfl, ?_⟩
        rw [s_hash, hr', SX.S_len]
        by_cases c2 : (r : Int) + st ≥ l.length
        · exact iteY (decide_eq_true (by show (l.length : Int) ≤ (r : Int) + st; exact c2)) (out (.inr c2))
        · refine iteE (decide_eq_false (by show ¬ (l.length : Int) ≤ (r : Int) + st; exact c2)) ?_
          have q := q1 _ (shift_in en (by omega) (by omega))
          refine ⟨.int st, rfl, st, 0, rfl, rfl, _, rfl, ?_⟩
          by_cases c3 : st < 0
          · refine iteY (decide_eq_true c3) ?_
            obtain ⟨n, rfl⟩ : ∃ n : Nat, st = -(n : Int) := ⟨(-st).toNat, by omega⟩
            have en2 : (-(-(n : Int))) = (n : Int) := by omega
            refine ⟨rv l, rfl, .int (-(n : Int)), rfl, -(n : Int), rfl, _, rfl, S l, rfl, hz, .int (-(n : Int)), rfl, -(n : Int), rfl, ".", _, rfl, rfl, ?_, _, _, rfl, rfl, ?_, ?_⟩
            · rw [s_dot, en2]
              exact mul_ok' 46 n (by omega)
            · rw [s_dot, en2, mul_sign', cutS_from _ _ (by omega), SX.S_len, SX.S_len, List.length_drop, List.length_replicate]
              exact Nat.le_of_lt (small1000 (by omega))
            · rw [s_dot, en2, mul_sign', cutS_from _ _ (by omega), app_S, moved_left R (by omega)]
              exact q
          · refine iteE (decide_eq_false c3) ?_
            obtain ⟨n, rfl⟩ : ∃ n : Nat, st = (n : Int) := ⟨st.toNat, by omega⟩
            have en2 : ((S l).length : Int) - (n : Int) = ((l.length - n : Nat) : Int) := by
              rw [SX.S_len]
              omega
            refine ⟨.int n, rfl, ".", _, rfl, rfl, by rw [s_dot]; exact mul_ok' 46 n (by omega), rv l, rfl, rv l, rfl, S l, rfl, hz, .int n, rfl, _, _, rfl, rfl, _, rfl, S l, rfl, hz, _, _, rfl, rfl, ?_, ?_⟩
            · rw [s_dot, en2, mul_sign', cutS_to _ _ (by omega), SX.S_len, SX.S_len, List.length_take, List.length_replicate]
              exact Nat.le_of_lt (small1000 (by omega))
            · rw [s_dot, en2, mul_sign', cutS_to _ _ (by omega), app_S, moved_right R (by omega)]
              exact q
    · rw [decide_eq_false hm]
      exact iteT ⟨rv l, rfl, q1 _ (shift_white R hm)⟩
end
end Dt
namespace Dt
open PySem PySem.Spec PyProof.Rows L2 L2X
open SX (S)
def srcOf (b : Bool) (q : Addr) : Src := match b with
  | true => .lst q
  | false => .tup q
theorem src_val (b : Bool) (q : Addr) : (srcOf b q).val = .ref q := by cases b <;> rfl
theorem src_has {K : PySem.W.Frag} {H : Hp} {b : Bool} {q : Addr} {xs : List V} (h : Sq K H b q xs) : (srcOf b q).has K H xs := by
  cases b <;> exact h
theorem sq_ty {K : PySem.W.Frag} {H : Hp} {b : Bool} {q : Addr} {xs : List V} (h : Sq K H b q xs) : ∃ T, TyB K H (.ref q) T ∧ tyOk T = true ∧ (decide ("list" = T) || decide ("tuple" = T)) = true := by
  cases b with
  | true => exact ⟨"list", .lst h, rfl, by decide⟩
  | false => exact ⟨"tuple", .tup h, rfl, by decide⟩
theorem sq_len {K : PySem.W.Frag} {H : Hp} {b : Bool} {q : Addr} {xs : List V} (h : Sq K H b q xs) : SqL K H q xs ∨ SqT K H q xs := by
  cases b with
  | true => exact .inl h
  | false => exact .inr h
section
variable {P : Program} {w : World} {K : PySem.W.Frag} {mg : Str → Option Value} {base : Heap} {C CP : Addr}
theorem ok_shf {f : Addr} {fd : FuncData} {k : Nat} (F : Fun K "shifted" "shifted" sShf f fd) (X : Tx mg) (T : Tp mg) (hz : mg "zip" = none) (NP : ExN K mg "NoPlace" CP) (GZ : GS P w K mg base C (k + 1)) (GL : Pm P w K mg base CX0 (k + 1) "is_list" ["thing"] (spIsList K))
    (GI : Pm P w K mg base CX0 (k + 1) "is_number" ["thing"] (spIsNum K)) (GR : Pm P w K mg base (L2.CX P w) (k + 1) "_shifted_row" ["row", "step"] (spSR CP)) : FnOk P w K mg base (L2.CX P w) (k + 2) f fd ["picture", "steps"] (spShf K CP) := by
  obtain ⟨fS, fdS, GS, mS, kS, bS⟩ := GZ.ex
  obtain ⟨fL, fdL, GL, mL, kL, bL⟩ := GL.ex
  obtain ⟨fI, fdI, GI, mI, kI, bI⟩ := GI.ex
  obtain ⟨fR, fdR, GR, mR, kR, bR⟩ := GR.ex
  refine F.okX scShf (fun vs H Q E h => ?_) (fun cdv A outer s H vs Q E hr h => ?_)
  · obtain ⟨a, x, _, _, _, rfl, _⟩ := h
    rfl
  · obtain ⟨a, x, high, wide, rs, rfl, ha, pr, h⟩ := h
    have nd := scShf.nd
    refine ⟨_, pss_cons (ps_set (i := 2) nd rfl (.inl rfl) (pe_ix (r := rIxT K) ix_tup (pe_callS GS hr (by rfl) mS kS bS (fun σ => passAt (takes_of rfl rfl rfl rfl) σ) (pa_cons (pv 0) pa_nil)) pe_int (fun _ _ => rfl)))
      (pss_cons (ps_if (PW.pt (pw_or (pt_not (pt_val (pe_call GL hr (by rfl) mL kL bL .nil pass0 (pa_cons (pv 1) pa_nil)))) (pw_or (pt_cmpR op_ne (pe_callB call_len_seq (by rfl) X.len PySem.boot_len (pa_cons (pv 1) pa_nil)) (pv 2) (nomark _)) (pw_or1 (pt_not (pt_val (pe_callB (cr_all rfl) (by rfl) T.all (by decide +kernel) (pa_cons (pe_lc (own := [("step", 3)]) (g := gName 3) (tt := tYes) rfl nd (pi_sq (pv 1)) (blkOk_by (N := ["picture", "steps", "rows", "step", "row"]) (sc := defScope sShf) (by decide +kernel)) (fun _ _ _ _ _ => pg_name (i := 3) nd rfl (Or.inl rfl)) (fun _ _ _ _ _ => pts_nil)
            (fun _ _ _ _ _ => pe_call GI hr (by rfl) mI kI bI .nil pass0 (pa_cons (pv 3) pa_nil))) pa_nil))))))))
        (pss_one (ps_raise rfl (takes_of rfl rfl rfl rfl) (pmk_own PySem.F.excBase_ValueError NP.x NP.g NP.k (raises_own NP.b NP.t) rfl))) pss_nil)
      (pss_one (ps_ret (pe_callTy call_tuple_of (by rfl) X.tuple (by decide +kernel) (pa_cons (pe_lcX (E := E) (own := [("row", 4), ("step", 3)]) (g := gTup K 2 (gCons (gName 4) (gCons (gName 3) gNil))) rfl rfl (takes_of rfl rfl rfl rfl) rfl nd (pi_zipG (by rfl) hz (pa_cons (pv 0) (pa_cons (pv 1) pa_nil))) (blkOk_by (N := ["picture", "steps", "rows", "step", "row"]) (sc := defScope sShf) (by decide +kernel))
          (fun _ _ _ _ _ => pg_tup rfl (pgs_cons (pg_name (i := 4) nd rfl (Or.inl rfl)) (pgs_cons (pg_name (i := 3) nd rfl (Or.inl rfl)) pgs_nil)))
          (fun _ _ _ _ _ ps => pe_call GR hr (by rfl) mR kR bR .nil ps (pa_cons (pv 4) (pa_cons (pv 3) pa_nil)))) pa_nil))))), ?_⟩
    have e1 := picSize pr
    have hlen := pr.len
    have w1 := pr.w1
    have h1' := pr.h1
    refine ⟨.ref a, rfl, .ref a, rfl, .inr ⟨a, _, rfl, SqT.of ha, kn_rows pr, picOk_pic pr, fun p3 H3 s3 n3 h3 => ?_⟩⟩
    rw [e1.1, e1.2] at h3
    refine ⟨p3, _, 0, .int high, rfl, rfl, SqT.of h3, atI_nat (j := 0) rfl, x, rfl, ?_⟩
    -- what all tells of the steps
    have walk : ∀ (b : Bool) (q : Addr) (xs : List V) (H4 : Hp) (R : Bool → Hp → Prop), Sq K H b q xs → Same H H4 → xs.length ≤ 1000 → (∀ y ∈ xs, Kt K H y) → (∀ H5, Same H H5 → R (!(xs.map isInt).all id) H5) →
        tNot (tB (tCB (rAll K) (tCons (tLc (iSq K (tVar 1)) (gName 3) tYes (tCall (spIsNum K) [] E0 (tCons (tVar 3) tNil)) [3]) tNil))) [some (.ref a), some (.ref q), some (.int high), none, none] H4 R := by
      intro b q xs H4 R hq s4 hl hk k
      refine ⟨.ref q, rfl, b, q, xs, rfl, hq.same s4, fun D hD => lc_sq (K := K) (a := q) (xs := xs) (fun i H5 => Same H H5 ∧ H5 D = some (.lst (((xs.map isInt).take i).map V.bl))) ⟨s4.trans (same_upd hD), upd_same⟩ (fun i H5 _ z => hq.same z.1) ?_ ?_⟩
      · rintro i y H5 hi ⟨sm, h5⟩
        have eb : (xs.map isInt)[i]? = some (isInt y) := by rw [List.getElem?_map, hi]; rfl
        refine ⟨rfl, y, rfl, y, rfl, (hk y (List.mem_of_getElem? hi)).same sm, _, h5, ?_, ?_, ?_⟩
        · rw [List.length_map, List.length_take, List.length_map]
          exact smallT (by omega)
        · exact same_over sm (s4.free hD)
        · rw [upd_same, take_snoc eb, List.map_append]
          rfl
      · rintro H5 ⟨sm, h5⟩
        have et : (xs.map isInt).take xs.length = xs.map isInt := List.take_of_length_le (by rw [List.length_map]; exact Nat.le_refl _)
        rw [et] at h5
        exact ⟨D, xs.map isInt, rfl, SqL.of h5, _, rfl, k H5 sm⟩
    rcases h with ⟨Ty, ht, ok, n1, n2, q⟩ | ⟨b, q, xs, rfl, hq, hl, hk, bad, q0⟩ | ⟨b, q, ns, rfl, hq, hl, q1, q2⟩
    · refine ⟨x, Ty, rfl, tyB_same2 ht s3, ok, fun H4 s4 => ⟨_, rfl, ?_⟩⟩
      rw [decide_eq_false (fun z => n1 z.symm), decide_eq_false (fun z => n2 z.symm)]
      exact iteT (q _ (s3.trans s4))
    · obtain ⟨Ty, ty, tok, te⟩ := sq_ty (hq.same s3)
      refine ⟨.ref q, Ty, rfl, ty, tok, fun H4 s4 => ⟨_, rfl, iteE (by rw [te]; rfl) ?_⟩⟩
      have s34 := s3.trans s4
      refine ⟨.ref q, rfl, q, xs, rfl, sq_len (hq.same s34), .int high, rfl, rfl, _, rfl, ?_⟩
      by_cases hh : xs.length = high
      · refine iteE (by rw [hh]; simp) ?_
        refine walk b q xs H4 _ hq s34 hl hk fun H5 sm => ?_
        have hf : (xs.map isInt).all id = false := by
          rw [List.all_map]
          cases e : xs.all isInt with
          | true => exact absurd ⟨hh, e⟩ bad
          | false => exact e
        exact iteY (by rw [hf]; rfl) (q0 _ sm)
      · refine iteY ?_ (q0 _ s34)
        rw [decide_eq_false (fun z => hh (by have := V.int.inj z; omega))]
        rfl
    · obtain ⟨Ty, ty, tok, te⟩ := sq_ty (hq.same s3)
      refine ⟨.ref q, Ty, rfl, ty, tok, fun H4 s4 => ⟨_, rfl, iteE (by rw [te]; rfl) ?_⟩⟩
      have s34 := s3.trans s4
      refine ⟨.ref q, rfl, q, ns.map V.int, rfl, sq_len (hq.same s34), .int high, rfl, rfl, _, rfl, iteE (by rw [List.length_map, hl]; simp) ?_⟩
      refine walk b q (ns.map V.int) H4 _ hq s34 (by rw [List.length_map]; omega) (fun y hy => by
        obtain ⟨n, _, rfl⟩ := List.mem_map.mp hy
        exact kt_int n) fun H5 sm => ?_
      have hf : ((ns.map V.int).map isInt).all id = true := by
        rw [List.all_map, List.all_map]
        exact List.all_eq_true.mpr fun _ _ => rfl
      refine iteE (by rw [hf]; rfl) ?_
      refine ⟨.ref a, rfl, .ref q, rfl, .tup a, srcOf b q, rs.map rv, ns.map V.int, by rw [src_val]; rfl, SqT.of (sm _ _ ha), src_has (hq.same sm), fun D2 hD2 => lc_zipG (K := K) (A := .tup a) (B := srcOf b q) (xs := rs.map rv) (ys := ns.map V.int) ?_
        (fun i H6 => Same H H6 ∧ (∀ p ∈ (rs.zip ns).take i, (shiftL p.1 p.2).isSome = true) ∧ H6 D2 = some (.lst ((((rs.zip ns).take i).map fun p => (shiftL p.1 p.2).getD []).map rv))) ⟨sm.trans (same_upd hD2), (fun p hp => nomatch hp), upd_same⟩ (fun i H6 _ z => ⟨SqT.of (z.1 _ _ ha), src_has (hq.same z.1)⟩) ?_ ?_⟩
      · rw [List.length_map, List.length_map, hlen, hl]
      · rintro i x y H6 T6 hx hy ⟨sm6, all6, h6⟩ hT
        obtain ⟨l, hl', rfl⟩ := map_at hx
        obtain ⟨st, hs', rfl⟩ := map_at hy
        have hz' : (rs.zip ns)[i]? = some (l, st) := List.getElem?_zip_eq_some.mpr ⟨hl', hs'⟩
        have sT := same_upd (o := .tup [rv l, V.int st]) hT
        have R := pr.row l (List.mem_of_getElem? hl')
        have hi : i < rs.length := (List.getElem?_eq_some_iff.mp hl').1
        refine ⟨T6, _, rfl, SqT.of upd_same, rfl, _, _, rfl, _, _, rfl, rfl, rfl, rv l, rfl, .int st, rfl, l, st, wide, rfl, R, w1, fun m hm => ?_, fun hm => ?_⟩
        · refine ⟨_, sT _ _ h6, ?_, same_over (sm6.trans sT) (sm.free hD2), fun p hp => ?_, ?_⟩
          · rw [List.length_map, List.length_map, List.length_take]
            exact smallT (by omega)
          · rw [take_snoc hz'] at hp
            rcases List.mem_append.mp hp with z | z
            · exact all6 p z
            · rw [List.mem_singleton.mp z, hm]
              rfl
          · rw [upd_same, take_snoc hz', List.map_append, List.map_append, List.map_cons, hm]
            rfl
        · refine q2 (fun z => ?_) _ (sm6.trans sT)
          have := z (l, st) (List.mem_of_getElem? hz')
          rw [hm] at this
          cases this
      · rintro H6 ⟨sm6, all6, h6⟩
        have e : (rs.zip ns).take (rs.map rv).length = rs.zip ns := by
          apply List.take_of_length_le
          rw [List.length_map, List.length_zip]
          omega
        rw [e] at h6 all6
        refine ⟨D2, _, rfl, .inl ⟨SqL.of h6, fun p hp => ?_⟩⟩
        exact q1 all6 p _ (sm6.trans (same_upd hp)) (sm6.free hp) upd_same
end
end Dt
namespace Dt
open PySem PySem.Spec PyProof.Rows L2 L2X
open SX (S)
theorem atI_int {α : Type} {xs : List α} {i : Int} {j : Nat} {v : α} (e : i = (j : Int)) (h : xs[j]? = some v) : atI xs i = some v := by
  rw [e]
  exact atI_nat h
/-! ### the law's own dots -/
abbrev sLD : Stmt := topS 43
theorem scLD : FnScope ["picture", "found", "r", "c"] ["picture"] (defScope sLD) := ⟨rfl, rfl, rfl, by decide +kernel, rfl, by decide +kernel, by decide +kernel⟩
abbrev sLQ : Stmt := topS 44
theorem scLQ : FnScope ["picture", "found", "c", "row"] ["picture"] (defScope sLQ) := ⟨rfl, rfl, rfl, by decide +kernel, rfl, by decide +kernel, by decide +kernel⟩
abbrev sLR : Stmt := topS 45
theorem scLR : FnScope ["row", "step", "wide", "spots", "c"] ["row", "step"] (defScope sLR) := ⟨rfl, rfl, rfl, by decide +kernel, rfl, by decide +kernel, by decide +kernel⟩
def optV : Option (List Nat) → V
  | some m => rv m
  | none => .non
def spLR : Sp := fun vs H Q _ => ∃ (l : List Nat) (s : Int) (wide : Nat), vs = [rv l, .int s] ∧ RowR wide l ∧ wide ≤ 120 ∧ ∀ H', Same H H' → Q (optV (shiftL l s)) H'
section
variable {P : Program} {w : World} {K : PySem.W.Frag} {mg : Str → Option Value} {base : Heap} {C CP : Addr}
theorem ok_LD {f : Addr} {fd : FuncData} {k : Nat} (F : Fun K "_law_dots" "_law_dots" sLD f fd) (X : Tx mg) : FnOk P w K mg base CX0 (k + 1) f fd ["picture"] (spDots K) := by
  refine F.ok scLD (fun vs H Q E h => ?_) (fun cdv A outer s H vs Q E hr h => ?_)
  · obtain ⟨a, _, _, _, rfl, _⟩ := h
    rfl
  · obtain ⟨a, high, wide, rs, rfl, ha, pr, q⟩ := h
    have nd := scLD.nd
    refine ⟨_, pss_cons (ps_set (i := 1) nd rfl (.inl rfl) (pe_lst pa_nil))
      (pss_cons (ps_for PassesOwn.never rfl (pi_range1 rfl X.range (pa_cons (pe_callB call_len_seq (by rfl) X.len PySem.boot_len (pa_cons (pv 0) pa_nil)) pa_nil)) (pg_name (i := 2) nd rfl (.inl rfl))
        (pss_one (ps_for PassesOwn.never rfl (pi_range1 rfl X.range (pa_cons (pe_callB call_len_str (by rfl) X.len PySem.boot_len (pa_cons (pe_ix (r := rIxT K) ix_tup (pv 0) pe_int (fun _ _ => rfl)) pa_nil)) pa_nil)) (pg_name (i := 3) nd rfl (.inl rfl))
          (pss_one (ps_if (pt_cmpR op_eq (pe_ix ix_str (pe_ix (r := rIxT K) ix_tup (pv 0) (pv 2) (fun _ _ => rfl)) (pv 3) (fun _ _ => rfl)) pe_str (nomark _))
            (pss_one (ps_expr (pe_bm PySem.F.plainAttrs_list PySem.F.slot_list_append PySem.F.type_list_append mt_append (pv 1) (pa_cons (pe_tup (pa_cons (pv 2) (pa_cons (pv 3) pa_nil))) pa_nil)))) pss_nil)))))
      (pss_one (ps_ret (pv 1)))), ?_⟩
    have w0 := pr.w0
    have w1 := pr.w1
    have h0 := pr.h0
    have h1' := pr.h1
    have hlen := pr.len
    obtain ⟨r0, rr, ers⟩ : ∃ r0 rr, rs = r0 :: rr := by
      cases rs with
      | nil =>
        simp at hlen
        omega
      | cons r0 rr => exact ⟨r0, rr, rfl⟩
    have l0 : r0.length = wide := by rw [ers] at pr; exact (pr.row r0 List.mem_cons_self).len
    have at0 : atI (rs.map rv) 0 = some (rv r0) := by rw [ers]; exact atI_nat (j := 0) rfl
    refine ⟨by show 0 ≤ sizeLine; decide, fun D hD => ?_⟩
    have sD := same_upd (o := .lst []) hD
    refine ⟨.ref a, rfl, a, rs.map rv, rfl, .inr (SqT.of (sD _ _ ha)), ((rs.map rv).length : Int), rfl, by rw [List.length_map]; omega, by rw [List.length_map]; omega, for_range (lo := 0) (n := (rs.map rv).length) (fun i σ H2 => Same H H2 ∧ ∃ y2 y3 xs, σ = [some (.ref a), some (.ref D), y2, y3] ∧ H2 D = some (.lst xs) ∧ Plc K H2 xs (dotsP (rs.take i)) ∧ xs.length ≤ i * 120) ?_ ?_ ?_⟩
    · exact ⟨sD, none, none, [], rfl, upd_same, ⟨rfl, fun i x p h => nomatch h⟩, Nat.zero_le _⟩
    · rintro i σ H2 hi ⟨sm, y2, y3, xs, rfl, hx, pl, lx⟩
      rw [List.length_map] at hi
      have hl : rs[i]? = some rs[i] := List.getElem?_eq_getElem hi
      generalize rs[i] = l at hl
      have l1 := (pr.row l (List.mem_of_getElem? hl)).len
      have ez : (S r0).length ≤ sizeLine := by
        rw [SX.S_len]
        exact Nat.le_of_lt (small1000 (by omega))
      refine ⟨.ref a, rfl, a, rs.map rv, 0, rv r0, rfl, rfl, SqT.of (sm _ _ ha), at0, S r0, rfl, ez, ((S r0).length : Int), rfl, by rw [SX.S_len]; omega, by rw [SX.S_len]; omega, for_range (lo := 0) (n := (S r0).length) (fun j σ H4 => Same H H4 ∧ ∃ y3 ys, σ = [some (.ref a), some (.ref D), some (.int (0 + (i : Nat))), y3] ∧ H4 D = some (.lst ys) ∧ Plc K H4 ys (dotsP (rs.take i) ++ rowDots i (l.take j)) ∧ ys.length ≤ i * 120 + j) ?_ ?_ ?_⟩
      · exact ⟨sm, y3, xs, rfl, hx, by rw [List.take_zero]; show Plc K _ xs (dotsP (rs.take i) ++ []); rw [List.append_nil]; exact pl, lx⟩
      · rintro j σ H4 hj ⟨sm4, y3, ys, rfl, hys, pl4, ly⟩
        rw [SX.S_len, l0] at hj
        have hc : l[j]? = some l[j] := List.getElem?_eq_getElem (by omega)
        generalize l[j] = c at hc
        refine ⟨.ref a, rfl, .int (0 + (i : Nat)), rfl, a, rs.map rv, 0 + (i : Nat), rv l, rfl, rfl, SqT.of (sm4 _ _ ha), atI_int (j := i) (by omega) (by rw [List.getElem?_map, hl]; rfl), .int (0 + (j : Nat)), rfl, S l, 0 + (j : Nat), c, rfl, rfl, ?_, atI_int (j := j) (by omega) ?_, ?_⟩
        · rw [SX.S_len]
          exact Nat.le_of_lt (small1000 (by omega))
        · show (S l).cps.toList[j]? = some c
          simp only [S]
          simpa using hc
        refine ⟨rfl, _, rfl, ?_⟩
        have e1 : decide (V.str ⟨#[c]⟩ = V.str "#") = decide (c = 35) := by
          rw [s_hash]
          exact ch_dec c 35
        rw [e1, rowDots_snoc hc]
        by_cases ec : c = 35
        · rw [decide_eq_true ec, if_pos ec]
          refine iteT ⟨.ref D, rfl, .inl ⟨rfl, ys, SqL.of hys⟩, .int (0 + (i : Nat)), rfl, .int (0 + (j : Nat)), rfl, by show 2 ≤ sizeLine; decide, fun t ht => ?_⟩
          have st := same_upd (o := .tup [V.int (0 + (i : Nat)), V.int (0 + (j : Nat))]) ht
          have z1 : (0 : Int) + (i : Nat) = (i : Nat) := by omega
          have z2 : (0 : Int) + (j : Nat) = (j : Nat) := by omega
          refine ⟨D, ys, .ref t, rfl, rfl, st _ _ hys, smallT (by omega), same_over (sm4.trans st) hD, _, ys ++ [.ref t], rfl, upd_same, ?_, ?_⟩
          · rw [z1, z2, ← List.append_assoc]
            exact plc_one pl4 hys ht
          · rw [List.length_append, List.length_singleton]
            omega
        · rw [decide_eq_false ec, if_neg ec, List.append_nil]
          exact iteF ⟨sm4, _, ys, rfl, hys, pl4, by omega⟩
      · rintro σ H4 ⟨sm4, y3, ys, rfl, hys, pl4, ly⟩
        rw [SX.S_len] at pl4 ly
        have e : l.take r0.length = l := List.take_of_length_le (by omega)
        rw [e, ← dotsP_snoc hl] at pl4
        exact ⟨sm4, _, _, ys, rfl, hys, pl4, by omega⟩
    · rintro σ H2 ⟨sm, y2, y3, xs, rfl, hx, pl, lx⟩
      rw [List.length_map, List.take_length] at pl
      rw [List.length_map] at lx
      exact ⟨.ref D, rfl, q D xs H2 sm hD hx pl (by omega)⟩
end
end Dt
namespace L2X
open PySem PySem.Spec PyProof.Rows L2
theorem op_in_seqK {X : Cx} {K : PySem.W.Frag} (hK : X.K = K) : OpR X (compareOp .In) (rIn K false) := by
  subst hK
  exact op_in_seq
theorem inV_ints (c : Int) (ns : List Int) : inV (.int c) (ns.map V.int) = decide (c ∈ ns) := by
  unfold inV
  rw [List.any_map, Bool.eq_iff_iff, decide_eq_true_iff, List.any_eq_true]
  constructor
  · rintro ⟨x, hx, h⟩
    have e : x = c := beq_iff_eq.mp h
    rw [← e]
    exact hx
  · intro h
    exact ⟨c, h, beq_self_eq_true c⟩
end L2X
namespace Dt
open PySem PySem.Spec PyProof.Rows L2 L2X
open SX (S)
section
variable {P : Program} {w : World} {K : PySem.W.Frag} {mg : Str → Option Value} {base : Heap} {C CP : Addr}
theorem ok_LQ {f : Addr} {fd : FuncData} {k : Nat} (F : Fun K "_law_quarter" "_law_quarter" sLQ f fd) (X : Tx mg) : FnOk P w K mg base CX0 (k + 1) f fd ["picture"] spTO := by
  refine F.ok scLQ (fun vs H Q E h => ?_) (fun cdv A outer s H vs Q E hr h => ?_)
  · obtain ⟨a, _, _, _, rfl, _⟩ := h
    rfl
  · obtain ⟨a, high, wide, rs, rfl, ha, b, q⟩ := h
    have nd := scLQ.nd
    refine ⟨_, pss_cons (ps_set (i := 1) nd rfl (.inl rfl) (pe_lst pa_nil))
      (pss_cons (ps_for PassesOwn.never rfl (pi_range1 rfl X.range (pa_cons (pe_callB call_len_str (by rfl) X.len PySem.boot_len (pa_cons (pe_ix (r := rIxT K) ix_tup (pv 0) pe_int (fun _ _ => rfl)) pa_nil)) pa_nil)) (pg_name (i := 2) nd rfl (.inr rfl))
        (pss_one (ps_expr (pe_bm PySem.F.plainAttrs_list PySem.F.slot_list_append PySem.F.type_list_append mt_append (pv 1) (pa_cons (pe_join pe_str (pe_lc (own := [("row", 3)]) (g := gName 3) (tt := tYes) rfl nd (pi_tup (pe_revT (pv 0))) (blkOk_by (N := ["picture", "found", "c", "row"]) (sc := defScope sLQ) (by decide +kernel)) (fun _ _ _ _ _ => pg_name (i := 3) nd rfl (Or.inl rfl)) (fun _ _ _ _ _ => pts_nil)
          (fun _ _ _ _ _ => pe_ix ix_str (pv 3) (pv 2) (fun _ _ => rfl)))) pa_nil)))))
      (pss_one (ps_ret (pe_callTy call_tuple_of (by rfl) X.tuple (by decide +kernel) (pa_cons (pv 1) pa_nil))))), ?_⟩
    have w0 := b.w0
    have w1 := b.w1
    have h0 := b.h0
    have h1' := b.h1
    have hlen := b.r.len
    obtain ⟨r0, rr, ers⟩ : ∃ r0 rr, rs = r0 :: rr := by
      cases rs with
      | nil =>
        simp at hlen
        omega
      | cons r0 rr => exact ⟨r0, rr, rfl⟩
    have l0 : r0.length = wide := by rw [ers] at b; exact (b.r.row r0 List.mem_cons_self).len
    have at0 : atI (rs.map rv) 0 = some (rv r0) := by rw [ers]; exact atI_nat (j := 0) rfl
    have ez : (S r0).length ≤ sizeLine := by
      rw [SX.S_len]
      exact Nat.le_of_lt (small1000 (by omega))
    refine ⟨by show 0 ≤ sizeLine; decide, fun D hD => ?_⟩
    have sD := same_upd (o := .lst []) hD
    refine ⟨.ref a, rfl, a, rs.map rv, 0, rv r0, rfl, rfl, SqT.of (sD _ _ ha), at0, S r0, rfl, ez, ((S r0).length : Int), rfl, by rw [SX.S_len]; omega, by rw [SX.S_len]; omega, for_range (lo := 0) (n := (S r0).length) (fun i σ H2 => Same H H2 ∧ ∃ y2, σ = [some (.ref a), some (.ref D), y2, none] ∧ H2 D = some (.lst (((turn1 rs).take i).map rv))) ?_ ?_ ?_⟩
    · exact ⟨sD, none, rfl, upd_same⟩
    · rintro i σ H2 hi ⟨sm, y2, rfl, h2⟩
      rw [SX.S_len, l0] at hi
      refine ⟨.ref D, rfl, .inl ⟨rfl, _, SqL.of h2⟩, ⟨_, rfl⟩, .ref a, rfl, a, rs.map rv, rfl, SqT.of (sm _ _ ha), fun p hp => ?_⟩
      have sp := same_upd (o := .tup (rs.map rv).reverse) hp
      have hp1 : (upd H2 p (.tup (rs.map rv).reverse)) p = some (.tup (rs.reverse.map rv)) := by rw [upd_same, List.map_reverse]
      refine ⟨p, rfl, ⟨_, SqT.of hp1⟩, fun Dd hDd => lc_tup (K := K) (a := p) (xs := rs.reverse.map rv) (fun j H3 => Same H2 H3 ∧ H3 p = some (.tup (rs.reverse.map rv)) ∧ H3 Dd = some (.lst (((rs.reverse.take j).map fun l => (⟨#[l.getD i 0]⟩ : Str)).map V.str))) ⟨sp.trans (same_upd hDd), same_upd hDd _ _ hp1, upd_same⟩ (fun j H3 _ z => SqT.of z.2.1) ?_ ?_⟩
      · rintro j x H3 hj ⟨sm3, h3p, h3D⟩
        obtain ⟨l, hl, rfl⟩ := map_at hj
        have rl := b.r.row l (List.mem_reverse.mp (List.mem_of_getElem? hl))
        have hjl : j < rs.reverse.length := (List.getElem?_eq_some_iff.mp hl).1
        rw [List.length_reverse] at hjl
        have hc : l[i]? = some (l.getD i 0) := getD_some (by rw [rl.len]; exact hi)
        refine ⟨rfl, rv l, rfl, .int (0 + (i : Nat)), rfl, S l, 0 + (i : Nat), l.getD i 0, rfl, rfl, ?_, atI_int (j := i) (by omega) ?_, _, h3D, ?_, ?_, ?_, ?_⟩
        · rw [SX.S_len, rl.len]
          exact Nat.le_of_lt (small1000 (by omega))
        · show (S l).cps.toList[i]? = _
          simp only [S]
          simpa using hc
        · rw [List.length_map, List.length_map, List.length_take]
          exact smallT (by omega)
        · exact same_over sm3 (sp.free hDd)
        · rw [upd_ne (ne_of_none hp1 hDd)]
          exact h3p
        · rw [upd_same, take_snoc hl, List.map_append, List.map_append]
          rfl
      · rintro H3 ⟨sm3, h3p, h3D⟩
        rw [List.length_map, List.take_length] at h3D
        have el : (turn1 rs)[i]? = some (rs.reverse.map fun l => l.getD i 0) := by
          unfold turn1
          rw [List.getElem?_map, List.getElem?_range (by rw [b.head]; exact hi)]
          rfl
        have e2 : (rs.reverse.map fun l => (⟨#[l.getD i 0]⟩ : Str)) = (rs.reverse.map fun l => l.getD i 0).map fun c => (⟨#[c]⟩ : Str) := by
          rw [List.map_map]
          rfl
        rw [e2] at h3D
        refine ⟨"", Dd, _, rfl, rfl, .inl (SqL.of h3D), ?_, ?_⟩
        · rw [lens_rows, List.length_map, List.length_reverse]
          show rs.length + _ * 0 ≤ 16777216
          omega
        · rw [join_row]
          refine ⟨D, _, _, rfl, rfl, sm3 _ _ h2, ?_, same_over (sm.trans sm3) hD, _, rfl, ?_⟩
          · rw [List.length_map, List.length_take]
            exact smallT (by omega)
          · rw [upd_same, take_snoc el, List.map_append]
            rfl
    · rintro σ H2 ⟨sm, y2, rfl, h2⟩
      have e : (turn1 rs).take (S r0).length = turn1 rs := List.take_of_length_le (by rw [b.turn.r.len, SX.S_len]; omega)
      rw [e] at h2
      refine ⟨.ref D, rfl, D, _, rfl, .inl ⟨SqL.of h2, fun p2 hp2 => ?_⟩⟩
      exact q p2 _ (sm.trans (same_upd hp2)) (sm.free hp2) upd_same
theorem ok_LR {f : Addr} {fd : FuncData} {k : Nat} (F : Fun K "_law_row_shifted" "_law_row_shifted" sLR f fd) (X : Tx mg) : FnOk P w K mg base CX0 (k + 1) f fd ["row", "step"] spLR := by
  refine F.ok scLR (fun vs H Q E h => ?_) (fun cdv A outer s H vs Q E hr h => ?_)
  · obtain ⟨l, s, _, rfl, _⟩ := h
    rfl
  · obtain ⟨l, st, wide, rfl, R, hw, q⟩ := h
    have nd := scLR.nd
    refine ⟨_, pss_cons (ps_set (i := 2) nd rfl (.inr rfl) (pe_callB call_len_str (by rfl) X.len PySem.boot_len (pa_cons (pv 0) pa_nil)))
      (pss_cons (ps_set (i := 3) nd rfl (.inr rfl) (pe_lc (own := [("c", 4)]) (g := gName 4) rfl nd (pi_range1 rfl X.range (pa_cons (pv 2) pa_nil)) (blkOk_by (N := ["row", "step", "wide", "spots", "c"]) (sc := defScope sLR) (by decide +kernel)) (fun _ _ _ _ _ => pg_name (i := 4) nd rfl (Or.inl rfl)) (fun _ _ _ _ _ => pts_one (pt_cmpR op_eq (pe_ix ix_str (pv 0) (pv 4) (fun _ _ => rfl)) pe_str (nomark _)))
          (fun _ _ _ _ _ => pe_op op_add (pv 4) (pv 1))))
      (pss_cons (ps_if (pt_cmpR (op_neD hr.units) (pe_lc (own := [("c", 4)]) (g := gName 4) rfl nd (pi_list (pv 3)) (blkOk_by (N := ["row", "step", "wide", "spots", "c"]) (sc := defScope sLR) (by decide +kernel)) (fun _ _ _ _ _ => pg_name (i := 4) nd rfl (Or.inl rfl)) (fun _ _ _ _ _ => pts_one (pt_not (pt_chain op_le op_lt pe_int (pv 4) (pv 2))))
          (fun _ _ _ _ _ => pv 4)) (pe_lst pa_nil) (nomark _)) (pss_one (ps_ret pe_non)) pss_nil)
      (pss_one (ps_ret (pe_join pe_str (pe_lc (own := [("c", 4)]) (g := gName 4) (tt := tYes) rfl nd (pi_range1 rfl X.range (pa_cons (pv 2) pa_nil)) (blkOk_by (N := ["row", "step", "wide", "spots", "c"]) (sc := defScope sLR) (by decide +kernel)) (fun _ _ _ _ _ => pg_name (i := 4) nd rfl (Or.inl rfl)) (fun _ _ _ _ _ => pts_nil)
          (fun _ _ _ _ _ => pe_ifExp (pt_cmpR (op_in_seqK (K := K) rfl) (pv 4) (pv 3) (by with_unfolding_all rfl)) pe_str pe_str))))))), ?_⟩
    have hl := R.len
    have hz : (S l).length ≤ sizeLine := by
      rw [SX.S_len]
      exact Nat.le_of_lt (small1000 (by omega))
    refine ⟨rv l, rfl, S l, rfl, hz, ?_⟩
    rw [SX.S_len]
    have bd : (-(2 ^ 62) : Int) ≤ (l.length : Int) ∧ (l.length : Int) < 2 ^ 62 := ⟨by omega, by omega⟩
    -- spots
    refine ⟨.int l.length, rfl, l.length, rfl, bd.1, bd.2, fun D hD => lc_range (lo := 0) (n := l.length) (fun i H2 => Same H H2 ∧ H2 D = some (.lst ((((List.range i).filter fun c => decide (l.getD c 0 = 35)).map fun c : Nat => (c : Int) + st).map V.int))) ⟨same_upd hD, upd_same⟩ ?_ ?_⟩
    · rintro i H2 hi ⟨sm, h2⟩
      refine ⟨rfl, rv l, rfl, .int (0 + (i : Nat)), rfl, S l, 0 + (i : Nat), l.getD i 0, rfl, rfl, hz, atI_int (j := i) (by omega) ?_, rfl, _, rfl, ?_⟩
      · show (S l).cps.toList[i]? = _
        have := getD_some hi
        simp only [S]
        simpa using this
      · have e1 : decide (V.str ⟨#[l.getD i 0]⟩ = V.str "#") = decide (l.getD i 0 = 35) := by
          rw [s_hash]
          exact ch_dec _ 35
        rw [e1, List.range_succ, List.filter_append, List.map_append, List.map_append]
        by_cases ec : l.getD i 0 = 35
        · rw [decide_eq_true ec]
          have e2 : [i].filter (fun c => decide (l.getD c 0 = 35)) = [i] := by rw [List.filter_cons, if_pos (decide_eq_true ec), List.filter_nil]
          rw [e2]
          refine iteT ⟨.int (0 + (i : Nat)), rfl, .int st, rfl, _, _, rfl, rfl, _, h2, ?_, same_over sm hD, ?_⟩
          · rw [List.length_map, List.length_map]
            have := List.length_filter_le (fun c => decide (l.getD c 0 = 35)) (List.range i)
            rw [List.length_range] at this
            exact smallT (by omega)
          · rw [upd_same, Int.zero_add]
            rfl
        · rw [decide_eq_false ec]
          have e2 : [i].filter (fun c => decide (l.getD c 0 = 35)) = [] := by rw [List.filter_cons, if_neg (by rw [decide_eq_false ec]; exact Bool.false_ne_true), List.filter_nil]
          rw [e2, List.map_nil, List.map_nil, List.append_nil]
          exact iteF ⟨sm, h2⟩
    · rintro H2 ⟨sm, h2⟩
      have h2' : H2 D = some (.lst ((spotsZ l st).map V.int)) := h2
      have len : (spotsZ l st).length ≤ 120 := by
        unfold spotsZ
        rw [List.length_map]
        have := List.length_filter_le (fun c => decide (l.getD c 0 = 35)) (List.range l.length)
        rw [List.length_range] at this
        omega
      -- those that leave
      refine ⟨.ref D, rfl, D, rfl, ⟨_, SqL.of h2'⟩, fun E hE => lc_list (K := K) (a := D) (xs := (spotsZ l st).map V.int) (fun i H3 => Same H2 H3 ∧ H3 E = some (.lst ((((spotsZ l st).take i).filter fun p => !inZ l.length p).map V.int))) ⟨same_upd hE, upd_same⟩ (fun i H3 _ z => SqL.of (z.1 _ _ h2')) ?_ ?_⟩
      · rintro i x H3 hi ⟨sm3, h3⟩
        obtain ⟨p, hp, rfl⟩ := map_at hi
        have e2 : ((spotsZ l st).take (i + 1)).filter (fun p => !inZ l.length p) = ((spotsZ l st).take i).filter (fun p => !inZ l.length p) ++ if inZ l.length p then [] else [p] := by
          rw [take_snoc hp, List.filter_append]
          congr 1
          cases e : inZ l.length p <;> simp [e]
        rw [e2]
        have yes : inZ l.length p = true → (Same H2 H3 ∧ H3 E = some (.lst ((((spotsZ l st).take i).filter (fun p => !inZ l.length p) ++ if inZ l.length p then [] else [p]).map V.int))) := fun e => by
          rw [e, if_pos rfl, List.append_nil]
          exact ⟨sm3, h3⟩
        have no : inZ l.length p = false → ∃ acc, H3 E = some (.lst acc) ∧ acc.length < sizeLine ∧ Same H2 (upd H3 E (.lst (acc ++ [V.int p]))) ∧ (upd H3 E (.lst (acc ++ [V.int p]))) E = some (.lst ((((spotsZ l st).take i).filter (fun p => !inZ l.length p) ++ if inZ l.length p then [] else [p]).map V.int)) := fun e => by
          refine ⟨_, h3, ?_, same_over sm3 hE, ?_⟩
          · rw [List.length_map]
            have := List.length_filter_le (fun p => !inZ l.length p) ((spotsZ l st).take i)
            rw [List.length_take] at this
            exact smallT (by omega)
          · rw [upd_same, e, if_neg Bool.false_ne_true, List.map_append]
            rfl
        refine ⟨rfl, .int p, rfl, 0, p, rfl, rfl, _, rfl, ite2 (fun c1 => ?_) (fun c1 => ?_)⟩
        · refine ⟨.int l.length, rfl, p, l.length, rfl, rfl, _, rfl, ?_⟩
          have i1 : inZ l.length p = decide (p < (l.length : Int)) := by
            unfold inZ
            have : decide (0 ≤ p) = true := c1
            rw [this, Bool.true_and]
          cases e : decide (p < (l.length : Int)) with
          | true => exact iteF (yes (i1.trans e))
          | false => exact iteT ⟨.int p, rfl, no (i1.trans e)⟩
        · have i1 : inZ l.length p = false := by
            unfold inZ
            have : decide (0 ≤ p) = false := Bool.eq_false_iff.mpr c1
            rw [this, Bool.false_and]
          exact ⟨_, rfl, iteT ⟨.int p, rfl, no i1⟩⟩
      · rintro H3 ⟨sm3, h3⟩
        rw [List.length_map, List.take_length] at h3
        have h23 := sm3 _ _ h2'
        refine ⟨by show 0 ≤ sizeLine; decide, fun p hp => ?_⟩
        have sp := same_upd (o := .lst []) hp
        refine ⟨.list (((spotsZ l st).filter fun p => !inZ l.length p).map PyData.int), .list [], .lst (SqL.of (sp _ _ h3)) (dpInts _), .lst (SqL.of upd_same) .nil, PySem.W.ke_shaped_ints _, by decide +kernel, _, rfl, ?_⟩
        have sA := (sm.trans sm3).trans sp
        cases eb : (spotsZ l st).filter fun p => !inZ l.length p with
        | cons z zs =>
          refine iteT ?_
          have e1 : shiftL l st = none := by
            unfold shiftL
            rw [if_neg]
            intro al
            have hm : z ∈ (spotsZ l st).filter fun p => !inZ l.length p := by rw [eb]; exact List.mem_cons_self
            obtain ⟨m1, m2⟩ := List.mem_filter.mp hm
            rw [List.all_eq_true.mp al z m1] at m2
            cases m2
          have q' := q _ sA
          rw [e1] at q'
          exact q'
        | nil =>
          refine iteF ?_
          have e1 : shiftL l st = some (movedL l st) := by
            unfold shiftL
            rw [if_pos]
            refine List.all_eq_true.mpr fun p hp => ?_
            cases e : inZ l.length p with
            | true => rfl
            | false =>
              have : p ∈ (spotsZ l st).filter fun p => !inZ l.length p := List.mem_filter.mpr ⟨hp, by rw [e]; rfl⟩
              rw [eb] at this
              cases this
          refine ⟨⟨_, rfl⟩, .int l.length, rfl, l.length, rfl, bd.1, bd.2, fun G hG => lc_range (lo := 0) (n := l.length) (fun i H5 => Same H H5 ∧ H5 D = some (.lst ((spotsZ l st).map V.int)) ∧ H5 G = some (.lst ((((movedL l st).take i).map fun c => (⟨#[c]⟩ : Str)).map V.str))) ?_ ?_ ?_⟩
          · exact ⟨sA.trans (same_upd hG), same_upd hG _ _ (sp _ _ h23), upd_same⟩
          · rintro i H5 hi ⟨sm5, h5D, h5G⟩
            refine ⟨rfl, .int (0 + (i : Nat)), rfl, .ref D, rfl, D, _, rfl, .inl (SqL.of h5D), rfl, ?_, _, rfl, ?_⟩
            · rw [List.all_map]
              exact List.all_eq_true.mpr fun _ _ => rfl
            have ec : (if false = true then !inV (V.int (0 + (i : Nat))) ((spotsZ l st).map V.int) else inV (V.int (0 + (i : Nat))) ((spotsZ l st).map V.int)) = decide ((i : Int) ∈ spotsZ l st) := by
              rw [if_neg Bool.false_ne_true, inV_ints, Int.zero_add]
            have fin : ∀ c : Nat, (movedL l st)[i]? = some c → ∃ acc, H5 G = some (.lst acc) ∧ acc.length < sizeLine ∧ Same H (upd H5 G (.lst (acc ++ [V.str ⟨#[c]⟩]))) ∧ (upd H5 G (.lst (acc ++ [V.str ⟨#[c]⟩]))) D = some (.lst ((spotsZ l st).map V.int)) ∧ (upd H5 G (.lst (acc ++ [V.str ⟨#[c]⟩]))) G = some (.lst ((((movedL l st).take (i + 1)).map fun c => (⟨#[c]⟩ : Str)).map V.str)) := fun c hc => by
              refine ⟨_, h5G, ?_, same_over sm5 (sA.free hG), ?_, ?_⟩
              · rw [List.length_map, List.length_map, List.length_take, moved_len]
                exact smallT (by omega)
              · rw [upd_ne (ne_of_none (sp _ _ h23) hG)]
                exact h5D
              · rw [upd_same, take_snoc hc, List.map_append, List.map_append]
                rfl
            have hm := moved_at (s := st) hi
            by_cases c1 : (i : Int) ∈ spotsZ l st
            · rw [if_pos c1] at hm
              refine iteY (ec.trans (decide_eq_true c1)) ?_
              have z := fin 35 hm
              have e35 : (V.str ⟨#[35]⟩) = V.str "#" := congrArg V.str s_hash.symm
              rw [e35] at z
              exact z
            · rw [if_neg c1] at hm
              refine iteE (ec.trans (decide_eq_false c1)) ?_
              have z := fin 46 hm
              have e46 : (V.str ⟨#[46]⟩) = V.str "." := congrArg V.str s_dot.symm
              rw [e46] at z
              exact z
          · rintro H5 ⟨sm5, h5D, h5G⟩
            have e5 : (movedL l st).take l.length = movedL l st := List.take_of_length_le (by rw [moved_len]; exact Nat.le_refl _)
            rw [e5] at h5G
            refine ⟨"", G, _, rfl, rfl, .inl (SqL.of h5G), ?_, ?_⟩
            · rw [lens_rows, moved_len]
              show l.length + _ * 0 ≤ 16777216
              omega
            · rw [join_row]
              have q' := q _ sm5
              rw [e1] at q'
              exact q'
end
end Dt
namespace Dt
open PySem PySem.Spec PyProof.Rows L2 L2X LamX
open SX (S)
/-- a def whose code object is known -/
structure FunC (K : PySem.W.Frag) (x qual : Str) (st : Stmt) (f : Addr) (fd : FuncData) (cc : Addr) : Prop where
  ex : ∃ (oc : Value) (od : Option Addr) (kV doc pm : Value) (an : Option Addr) (ct : Value) (osl : Array (Option Value)),
    fd = PySem.W.fnOf x qual (defArgs st) (defBody st) (defScope st) .none kV doc pm an (.ref cc) ct ∧ K.lookup f = some ⟨oc, od, .func fd, osl⟩ ∧ PySem.W.codeIn K (.ref cc) qual = true
theorem FunC.ok {P : Program} {w : World} {K : PySem.W.Frag} {mg : Str → Option Value} {base : Heap} {x qual : Str} {st : Stmt} {f cc : Addr} {fd : FuncData} {N ps : List Str} {k : Nat} {sp : Sp} (F : FunC K x qual st f fd cc) (S : FnScope N ps (defScope st)) (len : ∀ vs H Q E, sp vs H Q E → vs.length = ps.length)
    (hbody : ∀ (A : Around) (outer : List Env) (s : Shared) (H : Hp) (vs : List V) (Q : VK) (E : XK), Room k (A.deeper (envOfC qual (defScope st) s.heap.objs.size f (.ref cc))) → sp vs H Q E →
      ∃ t, PSs (cxOf CX0 P w K mg base N qual (defScope st) f (.ref cc) A outer s H E).nox (defBody st) t ∧ t { nx := fun _ H' => Q .non H', rt := Q } (start N vs) H) : FnOk P w K mg base CX0 (k + 1) f fd ps sp := by
  obtain ⟨oc, od, kV, doc, pm, an, ct, osl, rfl, lk, hcd⟩ := F.ex
  refine fn_of lk hcd S len fun A outer s H vs Q E hr hsp => ?_
  obtain ⟨t, h, q⟩ := hbody A outer s H vs Q E hr hsp
  exact ⟨t, h.nox, q⟩
theorem passX0 {X : Cx} : Passes (L2.CX X.prog X.w) X E0 := fun _ _ _ _ _ _ _ h => by
  obtain ⟨_, _, _, _, _, _, _, _, _, _, _, _, z⟩ := h
  exact z.elim
def noSc : Scope := { kind := .function, names := [], isGenerator := false, isCoroutine := false }
def refLam : Expr → Scope
  | .Compare (.Call _ [.Lambda _ _ sc _] _ _) _ _ _ => sc
  | _ => noSc
abbrev sPR : Stmt := topS 46
abbrev nPR : List Str := ["draw", "picture", "high", "wide", "top", "left", "rows", "columns", "odd", "some", "good", "due", "row"]
theorem scPR : FnScope nPR ["draw", "picture"] (defScope sPR) := ⟨rfl, rfl, rfl, by decide +kernel, rfl, by decide +kernel, by decide +kernel⟩
def lamPSc : Scope := match (defBody sPR).getD 7 (.Pass ⟨0, 0, 0, 0⟩) with
  | .If _ b _ _ => (match b.getD 0 (.Pass ⟨0, 0, 0, 0⟩) with
    | .Return (some e) _ => refLam e
    | _ => noSc)
  | _ => noSc
/-- the name of a def's lambda -/
def lamN (nm : Str) (st : Stmt) : Str := (envOfC nm (defScope st) 0 0 (.ref 0)).qual ++ "<lambda>"
theorem cutR_rows {high wide : Nat} {rs : List (List Nat)} (p : PicR high wide rs) {t l h w : Nat} (h1 : t + h ≤ high) (h2 : l + w ≤ wide) : RowsR h w (cutR rs t l h w) := by
  have hlen := p.len
  refine ⟨?_, fun r hr => ?_⟩
  · unfold cutR
    rw [List.length_map, List.length_take, List.length_drop]
    omega
  · unfold cutR at hr
    obtain ⟨m, hm, rfl⟩ := List.mem_map.mp hr
    have rm := p.row m (List.mem_of_mem_drop (List.mem_of_mem_take hm))
    refine ⟨?_, fun c hc => rm.sg c (List.mem_of_mem_drop (List.mem_of_mem_take hc))⟩
    rw [List.length_take, List.length_drop, rm.len]
    omega
def KT (H H' : Hp) : Prop := ∀ b xs, H b = some (.tup xs) → H' b = some (.tup xs)
theorem KT.refl {H : Hp} : KT H H := fun _ _ e => e
theorem KT.trans {H H1 H2 : Hp} (a : KT H H1) (b : KT H1 H2) : KT H H2 := fun x xs e => b x xs (a x xs e)
theorem KT.same {H H' : Hp} (s : Same H H') : KT H H' := fun _ _ e => s _ _ e
theorem KT.dn {H H' : Hp} {d g c : Addr} (s : Dn d g H H') (D : Dr H d g c) : KT H H' := fun _ _ e => s.tup D e
theorem KT.ext {H H' : Hp} (s : ExtN H H') : KT H H' := fun _ _ e => s _ _ e (fun _ z => nomatch z)
theorem KT.list {H : Hp} {l : Addr} {xs ys : List V} (h : H l = some (.lst xs)) : KT H (upd H l (.lst ys)) := fun b zs e => by
  rw [upd_ne (ne_of e h (by intro z; cases z))]
  exact e
/-- what is put in the place of a number -/
def BadV (x : V) : Prop := isInt x = false ∨ x = .int (10 ^ 20)
theorem strB_bad1 {x y : V} {n : Int} (h : BadV x) (hn : n ≤ 1000) : strB x y n = false := by
  cases y with
  | int m =>
    show (decide (1 ≤ m) && betw x 0 (n - m)) = false
    rcases h with h | h
    · rw [betw_no h, Bool.and_false]
    · subst h
      rw [betw_int]
      by_cases c : 1 ≤ m
      · have : decide ((10 ^ 20 : Int) ≤ n - m) = false := decide_eq_false (by
          have : (10 ^ 20 : Int) = 100000000000000000000 := by decide
          omega)
        rw [this, Bool.and_false, Bool.and_false]
      · rw [decide_eq_false c, Bool.false_and]
  | _ => rfl
theorem strB_bad2 {x y : V} {n : Int} (h : BadV y) (hn : n ≤ 1000) : strB x y n = false := by
  rcases h with h | h
  · exact strB_no h
  · subst h
    show (decide ((1 : Int) ≤ 10 ^ 20) && betw x 0 (n - 10 ^ 20)) = false
    cases x with
    | int t =>
      rw [betw_int]
      have e20 : (10 ^ 20 : Int) = 100000000000000000000 := by decide
      by_cases c : 0 ≤ t
      · have : decide (t ≤ n - 10 ^ 20) = false := decide_eq_false (by omega)
        rw [this, Bool.and_false, Bool.and_false]
      · rw [decide_eq_false c, Bool.false_and, Bool.and_false]
    | _ => exact Bool.and_false _
def spPR (TL : List (Addr × Str)) : Sp := fun vs H Q _ => ∃ (d g c a : Addr) (high wide : Nat) (rs : List (List Nat)), vs = [.ref d, .ref a] ∧ Dr H d g c ∧ H a = some (.tup (rs.map rv)) ∧ PicR high wide rs ∧ Tabs TL H ∧
  ∀ H', Dr H' d g c → Tabs TL H' → KT H H' → Q (.bl true) H'
/-- what all laws with lambdas know of the refusing def -/
structure RefD (P : Program) (w : World) (K : PySem.W.Frag) (mg : Str → Option Value) (base : Heap) (CP : Addr) (k : Nat) : Prop where
  wd : Pm P w K mg base CX0 (k + 1) "_law_word" ["e"] (spWord CP "place")
  CD : ∃ a, mg "DotError" = some (.ref a) ∧ PySem.W.exmOne K (.ref CP) (.ref a) = some true
  R : Df K mg "_law_refused" sRef ["work"]
section
variable {P : Program} {w : World} {K : PySem.W.Frag} {mg : Str → Option Value} {base : Heap} {C CP : Addr}
theorem ok_PR {f c2 P2 : Addr} {fd : FuncData} {TL : List (Addr × Str)} (F : FunC K "_law_part_right" "_law_part_right" sPR f fd c2) (TB : TabB base mg c2 P2) (hm2 : (P2, lamN "_law_part_right" sPR) ∈ TL) (hu2 : ∀ p ∈ TL, p.1 = P2 → p.2 = lamN "_law_part_right" sPR) (X0 : Tx mg)
    (GN : Pm P w K mg base CX0 8 "_law_next" ["draw", "below"] spNext) (GK : Pm P w K mg base CX0 8 "_law_pick" ["draw", "some"] (spPick K)) (GC : Pm P w K mg base (L2.CX P w) 6 "cut_out" ["picture", "top", "left", "high", "wide"] (spCut K CP)) (RD : RefD P w K mg base CP 6) :
    FnOk P w K mg base CX0 9 f fd ["draw", "picture"] (spPR TL) := by
  obtain ⟨fN, fdN, GN, mN, kN, bN⟩ := GN.ex
  obtain ⟨fK, fdK, GK, mK, kK, bK⟩ := GK.ex
  obtain ⟨fC, fdC, GC, mC, kC, bC⟩ := GC.ex
  obtain ⟨fW, fdW, GW, mW, kW, bW⟩ := RD.wd.ex
  obtain ⟨CD, mCD, exm⟩ := RD.CD
  obtain ⟨fR, fdR, FR, mR, bR⟩ := RD.R.ex
  have kR := FR.kp
  obtain ⟨ocR, odR, kVR, docR, pmR, anR, cdR, ctR, oslR, rfl, lkR, hcR⟩ := FR.ex
  refine F.ok scPR (fun vs H Q E h => ?_) (fun A outer s H vs Q E hr h => ?_)
  · obtain ⟨d, g, c, a, _, _, _, rfl, _⟩ := h
    rfl
  · obtain ⟨d, g, c, a, high, wide, rs, rfl, D, ha, pr, hT, q⟩ := h
    have nd := scPR.nd
    have hrN := hr
    have hrC : Room 6 _ := hr.mono (by decide)
    have hG : GivesR (cxOf CX0 P w K mg base nPR "_law_part_right" (defScope sPR) f (.ref c2) A outer s H E).nox 7 ["work", "error", "e"] "_law_refused" (defScope sRef) fR cdR (defBody sRef) "work" (lamQ (cxOf CX0 P w K mg base nPR "_law_part_right" (defScope sPR) f (.ref c2) A outer s H E).nox) (TRef CP "place") := ref_gives (k := 6) GW mW kW bW mCD exm
    refine ⟨_, --TERM
      (pss_cons (ps_par (i := 2) (j := 3) (by rfl) nd rfl rfl (by decide) rfl rfl (pa_cons (pe_callB call_len_seq (by rfl) X0.len PySem.boot_len (pa_cons (pv 1) pa_nil)) (pa_cons (pe_callB call_len_str (by rfl) X0.len PySem.boot_len (pa_cons (pe_ix (r := rIxT K) ix_tup (pv 1) pe_int (fun _ _ => rfl)) pa_nil)) pa_nil)) (by rfl))
          (pss_cons (ps_asg (pe_tup (pa_cons (pe_op op_sub (pe_call GN hrN (by rfl) mN kN bN .nil pass0 (pa_cons (pv 0) (pa_cons (pe_op op_add (pv 2) pe_int) pa_nil))) pe_int) (pa_cons (pe_op op_sub (pe_call GN hrN (by rfl) mN kN bN .nil pass0 (pa_cons (pv 0) (pa_cons (pe_op op_add (pv 3) pe_int) pa_nil))) pe_int) pa_nil))) (pg_tup rfl (pgs_cons (pg_name (i := 4) nd rfl (Or.inl rfl)) (pgs_cons (pg_name (i := 5) nd rfl (Or.inr rfl)) pgs_nil))))
          (pss_cons (ps_asg (pe_tup (pa_cons (pe_op op_sub (pe_call GN hrN (by rfl) mN kN bN .nil pass0 (pa_cons (pv 0) (pa_cons (pe_op op_add (pv 2) pe_int) pa_nil))) pe_int) (pa_cons (pe_op op_sub (pe_call GN hrN (by rfl) mN kN bN .nil pass0 (pa_cons (pv 0) (pa_cons (pe_op op_add (pv 3) pe_int) pa_nil))) pe_int) pa_nil))) (pg_tup rfl (pgs_cons (pg_name (i := 6) nd rfl (Or.inl rfl)) (pgs_cons (pg_name (i := 7) nd rfl (Or.inr rfl)) pgs_nil))))
          (pss_cons (ps_set (i := 8) nd rfl (.inl rfl) (pe_call GN hrN (by rfl) mN kN bN .nil pass0 (pa_cons (pv 0) (pa_cons pe_int pa_nil))))
          (C8.pss_cut (ps_set (i := 9) nd rfl (.inr rfl) (pe_lst (pa_cons (pv 4) (pa_cons (pv 5) (pa_cons (pv 6) (pa_cons (pv 7) pa_nil))))))
          (C8.pss_cut (ps_if (pt_cmpR op_lt (pv 8) pe_int (nomark _)) (pss_one (ps_asg (pe_call GK hrN (by rfl) mK kK bK .nil pass0 (pa_cons (pv 0) (pa_cons (pe_lst (pa_cons pe_non (pa_cons pe_bl (pa_cons pe_str (pa_cons (pe_tup (pa_cons pe_int pa_nil)) (pa_cons (pe_op op_pow pe_int pe_int) pa_nil)))))) pa_nil))) (pg_sub (pv 9) (pv 8) set_list))) pss_nil)
          (C8.pss_cut (ps_set (i := 10) nd rfl (.inl rfl) (pe_and (pe_cmpR op_gt (pv 8) pe_int (nomark _)) (pe_and (pe_chain op_le op_lt pe_int (pv 4) (pv 2)) (pe_and (pe_chain op_le op_lt pe_int (pv 5) (pv 3)) (pe_and (pe_chain op_le op_le pe_int (pv 6) (pe_op op_sub (pv 2) (pv 4))) (pe_one (pe_chain op_le op_le pe_int (pv 7) (pe_op op_sub (pv 3) (pv 5)))))))))
          (pss_cons (ps_if (pt_not (pt_val (pv 10))) (pss_one (ps_ret (pe_cmpR op_eq (pe_lamcallR (k := 6) (T := TL) (TT := TRef CP "place") (t := fun E => tCallS (spCut K CP) (WE fun cls d _ H => E cls d H) (tCons (tVar 1) (tCons (tOp (rIxL K) (tVar 9) (tC (.int 0))) (tCons (tOp (rIxL K) (tVar 9) (tC (.int 1))) (tCons (tOp (rIxL K) (tVar 9) (tC (.int 2))) (tCons (tOp (rIxL K) (tVar 9) (tC (.int 3))) tNil)))))) (by rfl) mR kR lkR hcR bR scRef rfl (.inl rfl) hG TB rfl hm2 hu2 hr (lamS_by (show lamSB (defScope sPR) lamPSc = true by decide +kernel)) rfl (fun _ _ _ _ _ => rfl) (fun A outer s H E f c hr => pe_callS GC hr (by rfl) mC kC bC (fun σ => passAt (takes_of rfl rfl rfl rfl) σ) (pa_cons (pv 1) (pa_cons (pe_ix ix_list (pv 9) pe_int (fun _ _ => rfl)) (pa_cons (pe_ix ix_list (pv 9) pe_int (fun _ _ => rfl)) (pa_cons (pe_ix ix_list (pv 9) pe_int (fun _ _ => rfl)) (pa_cons (pe_ix ix_list (pv 9) pe_int (fun _ _ => rfl)) pa_nil))))))) pe_str (nomark _)))) pss_nil)
          (pss_cons (ps_set (i := 11) nd rfl (.inl rfl) (pe_callTy call_tuple_of (by rfl) X0.tuple (by decide +kernel) (pa_cons (pe_lc (own := [("row", 12)]) (g := gName 12) (tt := tYes) rfl nd (pi_tup (pe_slice sl_tupA (pv 1) (po_some (pv 4)) (po_some (pe_op op_add (pv 4) (pv 6))))) (blkOk_by (N := nPR) (sc := defScope sPR) (by decide +kernel)) (fun _ _ _ _ _ => pg_name (i := 12) nd rfl (Or.inl rfl)) (fun _ _ _ _ _ => pts_nil) (fun _ _ _ _ _ => pe_slice sl_str (pv 12) (po_some (pv 5)) (po_some (pe_op op_add (pv 5) (pv 7))))) pa_nil)))
          (pss_one (ps_ret (pe_cmpR (op_eqD hr.units) (pe_call GC hrC (by rfl) mC kC bC .nil passX0 (pa_cons (pv 1) (pa_cons (pv 4) (pa_cons (pv 5) (pa_cons (pv 6) (pa_cons (pv 7) pa_nil)))))) (pv 11) (nomark _))))))))))))), ?_⟩
    have h0 := pr.h0
    have h1 := pr.h1
    have w0 := pr.w0
    have w1 := pr.w1
    have hlen := pr.len
    obtain ⟨r0, rr, ers⟩ : ∃ r0 rr, rs = r0 :: rr := by
      cases rs with
      | nil =>
        simp at hlen
        omega
      | cons r0 rr => exact ⟨r0, rr, rfl⟩
    have l0 : r0.length = wide := by rw [ers] at pr; exact (pr.row r0 List.mem_cons_self).len
    have at0 : atI (rs.map rv) 0 = some (rv r0) := by rw [ers]; exact atI_nat (j := 0) rfl
    have ez : (S r0).length ≤ sizeLine := by
      rw [SX.S_len]
      exact Nat.le_of_lt (small1000 (by omega))
    refine ⟨.ref a, rfl, a, rs.map rv, rfl, .inr (SqT.of ha), .ref a, rfl, a, rs.map rv, 0, rv r0, rfl, rfl, SqT.of ha, at0, S r0, rfl, ez, .int high, .int wide, by rw [List.length_map, SX.S_len, hlen, l0], ?_⟩
    refine ⟨.ref d, rfl, .int high, rfl, high, 3, rfl, rfl, d, g, c, (high : Int) + 3, rfl, D, by omega, by omega, fun n1 H1 _ _ D1 dn1 => ⟨n1, 1, rfl, rfl, .ref d, rfl, .int wide, rfl, wide, 3, rfl, rfl, d, g, c, (wide : Int) + 3, rfl, D1, by omega, by omega, fun n2 H2 _ _ D2 dn2 => ⟨n2, 1, rfl, rfl, by show 2 ≤ sizeLine; decide, fun t1 ht1 => ?_⟩⟩⟩
    refine ⟨t1, _, rfl, SqT.of upd_same, rfl, .int (n1 - 1), _, rfl, .int (n2 - 1), [], rfl, rfl, ?_⟩
    have s1 := same_upd (o := .tup [V.int (n1 - 1), V.int (n2 - 1)]) ht1
    have k2 := ((KT.dn dn1 D).trans (KT.dn dn2 D1)).trans (KT.same s1)
    have T2 := (Dn.tabs dn2 D1 (Dn.tabs dn1 D hT)).ext s1
    have D2' := D2.same s1
    generalize upd H2 t1 (.tup [V.int (n1 - 1), V.int (n2 - 1)]) = G at k2 T2 D2' ⊢
    generalize n1 - 1 = tp
    generalize n2 - 1 = lf
    refine ⟨.ref d, rfl, .int high, rfl, high, 3, rfl, rfl, d, g, c, (high : Int) + 3, rfl, D2', by omega, by omega, fun n1 H1 _ _ D1 dn1 => ⟨n1, 1, rfl, rfl, .ref d, rfl, .int wide, rfl, wide, 3, rfl, rfl, d, g, c, (wide : Int) + 3, rfl, D1, by omega, by omega, fun n2 H2 _ _ D2 dn2 => ⟨n2, 1, rfl, rfl, by show 2 ≤ sizeLine; decide, fun t1 ht1 => ?_⟩⟩⟩
    refine ⟨t1, _, rfl, SqT.of upd_same, rfl, .int (n1 - 1), _, rfl, .int (n2 - 1), [], rfl, rfl, ?_⟩
    have s1 := same_upd (o := .tup [V.int (n1 - 1), V.int (n2 - 1)]) ht1
    have k3 := k2.trans (((KT.dn dn1 D2').trans (KT.dn dn2 D1)).trans (KT.same s1))
    have T3 := (Dn.tabs dn2 D1 (Dn.tabs dn1 D2' T2)).ext s1
    have D3' := D2.same s1
    generalize upd H2 t1 (.tup [V.int (n1 - 1), V.int (n2 - 1)]) = G3 at k3 T3 D3' ⊢
    generalize n1 - 1 = ro
    generalize n2 - 1 = co
    refine ⟨.ref d, rfl, d, g, c, 12, rfl, D3', by decide, by decide, fun od H4 od0 od1 D4 dn4 => ?_⟩
    have k4 := k3.trans (KT.dn dn4 D3')
    have T4 := Dn.tabs dn4 D3' T3
    clear dn4 k3 T3 D3' G3
    -- some
    refine ⟨fun σ' H' => ∃ so, σ' = [some (.ref d), some (.ref a), some (.int high), some (.int wide), some (.int tp), some (.int lf), some (.int ro), some (.int co), some (.int od), some (.ref so), none, none, none] ∧ H' so = some (.lst [.int tp, .int lf, .int ro, .int co]) ∧ so ≠ d ∧ so ≠ g ∧ so ≠ c ∧ Dr H' d g c ∧ Tabs TL H' ∧ KT H H', ?_, ?_⟩
    · refine ⟨.int tp, rfl, .int lf, rfl, .int ro, rfl, .int co, rfl, by show 4 ≤ sizeLine; decide, fun so hso => ?_⟩
      obtain ⟨m1, m2, m3⟩ := D4.newc hso
      exact ⟨so, rfl, upd_same, m1, m2, m3, D4.same (same_upd hso), T4.ext (same_upd hso), k4.trans (KT.same (same_upd hso))⟩
    rintro _ H5 ⟨so, rfl, hso, m1, m2, m3, D5, T5, k5⟩
    clear k4 T4 D4 H4
    -- one of them otherwise
    refine ⟨fun σ' H' => ∃ x1 x2 x3 x4, σ' = [some (.ref d), some (.ref a), some (.int high), some (.int wide), some (.int tp), some (.int lf), some (.int ro), some (.int co), some (.int od), some (.ref so), none, none, none] ∧ H' so = some (.lst [x1, x2, x3, x4]) ∧ Kt K H' x1 ∧ Kt K H' x2 ∧ Kt K H' x3 ∧ Kt K H' x4 ∧
      ((3 < od ∧ x1 = .int tp ∧ x2 = .int lf ∧ x3 = .int ro ∧ x4 = .int co) ∨ (od ≤ 3 ∧ (strB x1 x3 high && strB x2 x4 wide) = false)) ∧ Dr H' d g c ∧ Tabs TL H' ∧ KT H H', ?_, ?_⟩
    · refine ⟨.int od, rfl, od, 4, rfl, rfl, _, rfl, ite2 (fun e => ?_) (fun e => ?_)⟩
      · have e' : od < 4 := of_decide_eq_true e
        refine ⟨.ref d, rfl, by show 1 ≤ sizeLine; decide, fun tz htz => ⟨10, 20, rfl, rfl, ⟨by decide, by decide, by decide⟩, by show 5 ≤ sizeLine; decide, fun ol hol => ?_⟩⟩
        have s1 := same_upd (o := .tup [V.int 0]) htz
        have s2 := same_upd (o := .lst [V.non, V.bl true, V.str "1", V.ref tz, V.int (10 ^ Int.toNat 20)]) hol
        have s12 := s1.trans s2
        have nog : ol ≠ g := ((D5.same s1).newc hol).2.1
        have nod : ol ≠ d := ((D5.same s1).newc hol).1
        refine ⟨d, g, c, ol, _, rfl, D5.same s12, upd_same, nog, by show 0 < 5; decide, by show 5 ≤ 1000; decide, fun n x H6 hx D6 dn6 => ?_⟩
        have htz6 : H6 tz = some (.tup [V.int 0]) := dn6.tup (D5.same s12) (s2 _ _ upd_same)
        have hso6 := dn6 _ _ (s12 _ _ hso) m1 m2
        have bx : BadV x ∧ Kt K H6 x := by
          match n, hx with
          | 0, hx => cases hx; exact ⟨.inl rfl, ⟨"NoneType", .non, rfl⟩⟩
          | 1, hx => cases hx; exact ⟨.inl rfl, kt_bl true⟩
          | 2, hx => cases hx; exact ⟨.inl rfl, ⟨"str", .str _, rfl⟩⟩
          | 3, hx => cases hx; exact ⟨.inl rfl, ⟨"tuple", .tup (SqT.of htz6), rfl⟩⟩
          | 4, hx => cases hx; exact ⟨.inr rfl, kt_int _⟩
          | n + 5, hx => exact nomatch hx
        obtain ⟨bx, kx⟩ := bx
        have nxt : Kt K (upd H6 so (.lst [V.int tp, V.int lf, V.int ro, V.int co])) x → True := fun _ => trivial
        have kx' : ∀ ys, Kt K (upd H6 so (.lst ys)) x := fun ys => by
          obtain ⟨T, t, ok⟩ := kx
          exact ⟨T, (Kd.list hso6).ty t, ok⟩
        have D7 : ∀ ys, Dr (upd H6 so (.lst ys)) d g c := fun ys => D6.updl m1 m2 m3
        have T7 : ∀ ys, Tabs TL (upd H6 so (.lst ys)) := fun ys => Tabs.updl (Dn.tabs dn6 (D5.same s12) (T5.ext s12)) hso6
        have k7 : ∀ ys, KT H (upd H6 so (.lst ys)) := fun ys => ((k5.trans (KT.same s12)).trans (KT.dn dn6 (D5.same s12))).trans (KT.list hso6)
        refine ⟨.ref so, rfl, .int od, rfl, so, [V.int tp, V.int lf, V.int ro, V.int co], od, od.toNat, rfl, rfl, hso6, ?_, ?_⟩
        · rcases (show od = 0 ∨ od = 1 ∨ od = 2 ∨ od = 3 by omega) with z | z | z | z <;> (subst z; rfl)
        · rcases (show od = 0 ∨ od = 1 ∨ od = 2 ∨ od = 3 by omega) with z | z | z | z <;> subst z
          · exact ⟨x, .int lf, .int ro, .int co, rfl, upd_same, kx' _, kt_int _, kt_int _, kt_int _, .inr ⟨by decide, by rw [strB_bad1 bx (by omega), Bool.false_and]⟩, D7 _, T7 _, k7 _⟩
          · exact ⟨.int tp, x, .int ro, .int co, rfl, upd_same, kt_int _, kx' _, kt_int _, kt_int _, .inr ⟨by decide, by rw [strB_bad1 (x := x) bx (by omega), Bool.and_false]⟩, D7 _, T7 _, k7 _⟩
          · exact ⟨.int tp, .int lf, x, .int co, rfl, upd_same, kt_int _, kt_int _, kx' _, kt_int _, .inr ⟨by decide, by rw [strB_bad2 (y := x) bx (by omega), Bool.false_and]⟩, D7 _, T7 _, k7 _⟩
          · exact ⟨.int tp, .int lf, .int ro, x, rfl, upd_same, kt_int _, kt_int _, kt_int _, kx' _, .inr ⟨by decide, by rw [strB_bad2 (y := x) bx (by omega), Bool.and_false]⟩, D7 _, T7 _, k7 _⟩
      · have e' : ¬ od < 4 := fun z => e (decide_eq_true z)
        exact ⟨.int tp, .int lf, .int ro, .int co, rfl, hso, kt_int _, kt_int _, kt_int _, kt_int _, .inl ⟨by omega, rfl, rfl, rfl, rfl⟩, D5, T5, k5⟩
    rintro _ H6 ⟨x1, x2, x3, x4, rfl, hso6, kx1, kx2, kx3, kx4, alt, D6, T6, k6⟩
    clear hso D5 T5 k5 H5
    -- good
    refine ⟨fun σ' H' => ∃ gb, σ' = [some (.ref d), some (.ref a), some (.int high), some (.int wide), some (.int tp), some (.int lf), some (.int ro), some (.int co), some (.int od), some (.ref so), some (.bl gb), none, none] ∧ H6 = H' ∧ (gb = true ↔ (3 < od ∧ 0 ≤ tp ∧ tp < high ∧ 0 ≤ lf ∧ lf < wide ∧ 1 ≤ ro ∧ ro ≤ high - tp ∧ 1 ≤ co ∧ co ≤ wide - lf)), ?_, ?_⟩
    · have no : ∀ {p : Prop}, ¬ p → (false = true ↔ p) := fun h => ⟨(fun z => nomatch z), fun z => absurd z h⟩
      have nd' : ∀ {p : Prop} [Decidable p], ¬ (decide p = true) → ¬ p := fun h z => h (decide_eq_true z)
      refine ⟨.int od, rfl, od, 3, rfl, rfl, _, rfl, ite2 (fun c1 => ?_) (fun c1 => ⟨false, rfl, rfl, no fun z => nd' c1 z.1⟩)⟩
      refine ⟨.int tp, rfl, 0, tp, rfl, rfl, _, rfl, ite2 (fun c2 => ⟨.int high, rfl, tp, high, rfl, rfl, _, rfl, ite2 (fun c3 => ?_) (fun c3 => ⟨false, rfl, rfl, no fun z => nd' c3 z.2.2.1⟩)⟩) (fun c2 => ⟨_, rfl, iteF ⟨false, rfl, rfl, no fun z => nd' c2 z.2.1⟩⟩)⟩
      refine ⟨.int lf, rfl, 0, lf, rfl, rfl, _, rfl, ite2 (fun c4 => ⟨.int wide, rfl, lf, wide, rfl, rfl, _, rfl, ite2 (fun c5 => ?_) (fun c5 => ⟨false, rfl, rfl, no fun z => nd' c5 z.2.2.2.2.1⟩)⟩) (fun c4 => ⟨_, rfl, iteF ⟨false, rfl, rfl, no fun z => nd' c4 z.2.2.2.1⟩⟩)⟩
      refine ⟨.int ro, rfl, 1, ro, rfl, rfl, _, rfl, ite2 (fun c6 => ⟨.int high, rfl, .int tp, rfl, high, tp, rfl, rfl, ro, _, rfl, rfl, _, rfl, ite2 (fun c7 => ?_) (fun c7 => ⟨false, rfl, rfl, no fun z => nd' c7 z.2.2.2.2.2.2.1⟩)⟩) (fun c6 => ⟨_, rfl, iteF ⟨false, rfl, rfl, no fun z => nd' c6 z.2.2.2.2.2.1⟩⟩)⟩
      refine ⟨.int co, rfl, 1, co, rfl, rfl, _, rfl, ite2 (fun c8 => ⟨.int wide, rfl, .int lf, rfl, wide, lf, rfl, rfl, co, _, rfl, rfl, _, rfl, rfl, ?_⟩) (fun c8 => ⟨false, rfl, rfl, no fun z => nd' c8 z.2.2.2.2.2.2.2.1⟩)⟩
      rw [decide_eq_true_iff]
      exact ⟨fun z => ⟨of_decide_eq_true c1, of_decide_eq_true c2, of_decide_eq_true c3, of_decide_eq_true c4, of_decide_eq_true c5, of_decide_eq_true c6, of_decide_eq_true c7, of_decide_eq_true c8, z⟩, fun z => z.2.2.2.2.2.2.2.2⟩
    rintro _ _ ⟨gb, rfl, rfl, hgb⟩
    have ha6 : H6 a = some (.tup (rs.map rv)) := k6 _ _ ha
    refine ⟨.bl gb, rfl, gb, rfl, ?_⟩
    cases gb with
    | false =>
      have bad : (strB x1 x3 high && strB x2 x4 wide) = false := by
        rcases alt with ⟨o3, rfl, rfl, rfl, rfl⟩ | ⟨_, z⟩
        · cases e : strB (.int tp) (.int ro) high && strB (.int lf) (.int co) wide with
          | false => rfl
          | true =>
            rw [Bool.and_eq_true] at e
            obtain ⟨t1, m1', e1, e2, e3, e4⟩ := strB_true e.1
            obtain ⟨t2, m2', f1, f2, f3, f4⟩ := strB_true e.2
            cases e1
            cases e2
            cases f1
            cases f2
            exact (hgb.mpr ⟨o3, by omega, by omega, by omega, by omega, by omega, by omega, by omega, by omega⟩).symm
        · exact z
      refine iteT ⟨T6, fun Ha ext tabs => fun R => ?_⟩
      have hsoA := ext _ _ hso6 (fun _ z => nomatch z)
      refine ⟨.ref a, rfl, .ref so, rfl, so, _, 0, x1, rfl, rfl, SqL.of hsoA, atI_nat (j := 0) rfl, .ref so, rfl, so, _, 1, x2, rfl, rfl, SqL.of hsoA, atI_nat (j := 1) rfl, .ref so, rfl, so, _, 2, x3, rfl, rfl, SqL.of hsoA, atI_nat (j := 2) rfl, .ref so, rfl, so, _, 3, x4, rfl, rfl, SqL.of hsoA, atI_nat (j := 3) rfl, ?_⟩
      refine ⟨a, high, wide, rs, x1, x2, x3, x4, rfl, ext_tup ext ha6, pr, kx1.ext ext, kx2.ext ext, kx3.ext ext, kx4.ext ext, fun z => absurd (bad.symm.trans z) Bool.false_ne_true, fun _ Hb sb => ⟨rfl, rfl, fun Hc sc => ⟨rfl, ?_⟩⟩⟩
      have e1 : decide (V.str "place" = V.str "place") = true := decide_eq_true rfl
      rw [e1]
      have sbc := sb.trans sc
      exact q Hc ((D6.ext ext).same sbc) (tabs.ext sbc) ((k6.trans (KT.ext ext)).trans (KT.same sbc))
    | true =>
      obtain ⟨o3, b1, b2, b3, b4, b5, b6, b7, b8⟩ := hgb.mp rfl
      clear hgb alt
      obtain ⟨t, rfl⟩ := Int.eq_ofNat_of_zero_le b1
      obtain ⟨l, rfl⟩ := Int.eq_ofNat_of_zero_le b3
      obtain ⟨hh, rfl⟩ := Int.eq_ofNat_of_zero_le (show 0 ≤ ro by omega)
      obtain ⟨ww, rfl⟩ := Int.eq_ofNat_of_zero_le (show 0 ≤ co by omega)
      have RC := cutR_rows pr (t := t) (l := l) (h := hh) (w := ww) (by omega) (by omega)
      refine iteF ⟨.ref a, rfl, .int t, rfl, t, rfl, .int t, rfl, .int hh, rfl, t, hh, rfl, rfl, _, rfl, sl_any ha6 fun z H7 s7 hz => ?_⟩
      rw [cutV_mid _ _ _ (by rw [List.length_map, hlen]; omega), ← List.map_drop, ← List.map_take] at hz
      refine ⟨z, rfl, ⟨_, SqT.of hz⟩, fun Dd hDd => lc_tup (K := K) (a := z) (xs := ((rs.drop t).take hh).map rv) (fun i H8 => Same H7 H8 ∧ H8 Dd = some (.lst (((((rs.drop t).take hh).take i).map fun r => (r.drop l).take ww).map rv))) ⟨same_upd hDd, upd_same⟩ (fun i H8 _ zz => SqT.of (zz.1 _ _ hz)) ?_ ?_⟩
      · rintro i x H8 hi ⟨sm, h8⟩
        obtain ⟨r, hr', rfl⟩ := map_at hi
        have lr := (pr.row r (List.mem_of_mem_drop (List.mem_of_mem_take (List.mem_of_getElem? hr')))).len
        have hil : i < ((rs.drop t).take hh).length := (List.getElem?_eq_some_iff.mp hr').1
        rw [List.length_take, List.length_drop] at hil
        refine ⟨rfl, rv r, rfl, .int l, rfl, l, rfl, .int l, rfl, .int ww, rfl, l, ww, rfl, rfl, _, rfl, S r, rfl, ?_, ?_⟩
        · rw [SX.S_len]
          exact Nat.le_of_lt (small1000 (by omega))
        · rw [cutS_mid _ _ _ (by omega)]
          refine ⟨_, h8, ?_, same_over sm hDd, ?_⟩
          · rw [List.length_map, List.length_map, List.length_take]
            exact smallT (by omega)
          · rw [upd_same, take_snoc hr', List.map_append, List.map_append]
            rfl
      · rintro H8 ⟨sm, h8⟩
        rw [List.length_map, List.take_length] at h8
        refine ⟨Dd, _, rfl, .inl ⟨SqL.of h8, fun p hp => ?_⟩⟩
        have sp := same_upd (o := .tup ((cutR rs t l hh ww).map rv)) hp
        have s8 := (s7.trans sm).trans sp
        have gd : (strB (.int t) (.int hh) high && strB (.int l) (.int ww) wide) = true := by
          have e1 : strB (.int t) (.int hh) high = true := by
            show (decide ((1 : Int) ≤ hh) && betw (.int t) 0 ((high : Int) - hh)) = true
            rw [betw_int, decide_eq_true b5, decide_eq_true (by omega), decide_eq_true (by omega)]
            rfl
          have e2 : strB (.int l) (.int ww) wide = true := by
            show (decide ((1 : Int) ≤ ww) && betw (.int l) 0 ((wide : Int) - ww)) = true
            rw [betw_int, decide_eq_true b7, decide_eq_true (by omega), decide_eq_true (by omega)]
            rfl
          rw [e1, e2]
          rfl
        refine ⟨.ref a, rfl, .int t, rfl, .int l, rfl, .int hh, rfl, .int ww, rfl, a, high, wide, rs, .int t, .int l, .int hh, .int ww, rfl, s8 _ _ ha6, pr, kt_int _, kt_int _, kt_int _, kt_int _, fun _ t' l' h' w' e1 e2 e3 e4 _ _ _ _ p2 H9 s9 _ hp2 => ?_, fun z => absurd (gd.symm.trans z).symm Bool.false_ne_true⟩
        cases Int.ofNat.inj (V.int.inj e1)
        cases Int.ofNat.inj (V.int.inj e2)
        cases Int.ofNat.inj (V.int.inj e3)
        cases Int.ofNat.inj (V.int.inj e4)
        refine ⟨.ref p, rfl, .tuple ((cutR rs t l hh ww).map rD), .tuple ((cutR rs t l hh ww).map rD), .tup (SqT.of hp2) (dp_rows _), .tup (SqT.of (s9 _ _ upd_same)) (dp_rows (cutR rs t l hh ww)), shaped_rows RC, shaped_rows RC, ?_⟩
        have eqR : PyData.eqv (.tuple ((cutR rs t l hh ww).map rD)) (.tuple ((cutR rs t l hh ww).map rD)) = true := by
          rw [PyData.eqv]
          exact eqv_rows _
        rw [eqR]
        have s89 := s8.trans s9
        exact q H9 (D6.same s89) (T6.ext s89) (k6.trans (KT.same s89))
end
end Dt
namespace Dt
open PySem PySem.Spec PyProof.Rows L2 L2X LamX
open SX (S)
theorem turnK_big {high wide : Nat} {rs : List (List Nat)} (b : BigR high wide rs) : ∀ n, BigR (if n % 2 = 1 then wide else high) (if n % 2 = 1 then high else wide) (turnK n rs)
  | 0 => b
  | n + 1 => by
    have z := (turnK_big b n).turn
    by_cases h : n % 2 = 1
    · rw [if_pos h, if_pos h] at z
      rw [if_neg (by omega), if_neg (by omega)]
      exact z
    · rw [if_neg h, if_neg h] at z
      rw [if_pos (by omega), if_pos (by omega)]
      exact z
theorem eqv_ints : ∀ ns : List Int, PyData.eqvAll (ns.map PyData.int) (ns.map PyData.int) = true
  | [] => by simp [PyData.eqvAll]
  | n :: r => by
    rw [List.map_cons, PyData.eqvAll, eqv_ints r]
    simp [PyData.eqv]
theorem eqvR (ls : List (List Nat)) : (!PyData.eqv (.tuple (ls.map rD)) (.tuple (ls.map rD))) = false := by
  rw [PyData.eqv, eqv_rows]
  rfl
theorem eqvP (ps : List (Nat × Nat)) : (!PyData.eqv (.list (ps.map pD)) (.list (ps.map pD))) = false := by
  rw [PyData.eqv, eqv_places]
  rfl
theorem eqvI (ns : List Int) : (!PyData.eqv (.list (ns.map PyData.int)) (.list (ns.map PyData.int))) = false := by
  rw [PyData.eqv, eqv_ints]
  rfl
theorem opt_flat : ∀ xs : List (Option (List Nat)), (xs.map optV).all flatV = true
  | [] => rfl
  | none :: r => opt_flat r
  | some m :: r => opt_flat r
theorem inV_opt : ∀ xs : List (Option (List Nat)), inV .non (xs.map optV) = xs.any (·.isNone)
  | [] => rfl
  | none :: r => rfl
  | some m :: r => by
    show (eqV (rv m) .non || inV .non (r.map optV)) = _
    rw [inV_opt r]
    rfl
theorem opt_some {xs : List (Option (List Nat))} (h : xs.any (·.isNone) = false) : xs.map optV = (xs.map fun o => o.getD []).map rv := by
  induction xs with
  | nil => rfl
  | cons o r ih =>
    cases o with
    | none => cases h
    | some m =>
      rw [List.map_cons, List.map_cons, List.map_cons, ih h]
      rfl
theorem zip_row {high wide : Nat} {rs : List (List Nat)} (p : PicR high wide rs) {ns : List Int} (hn : ns.length = high) (h : ∀ q ∈ rs.zip ns, (shiftL q.1 q.2).isSome = true) : RowsR high wide ((rs.zip ns).map fun q => (shiftL q.1 q.2).getD []) := by
  have hl := p.len
  refine ⟨by rw [List.length_map, List.length_zip]; omega, fun l hm => ?_⟩
  obtain ⟨q, hq, rfl⟩ := List.mem_map.mp hm
  have hs := h q hq
  have R := p.row q.1 (List.of_mem_zip hq).1
  unfold shiftL at hs ⊢
  by_cases c : (spotsZ q.1 q.2).all (inZ q.1.length) = true
  · rw [if_pos c]
    exact moved_row q.2 R
  · rw [if_neg c] at hs
    cases hs
/-- what are no steps -/
def OddS (K : PySem.W.Frag) (H : Hp) (high : Nat) (x : V) : Prop :=
  (∃ T, TyB K H x T ∧ tyOk T = true ∧ T ≠ "list" ∧ T ≠ "tuple") ∨ ∃ q xs, x = .ref q ∧ SqL K H q xs ∧ xs.length ≤ 1000 ∧ (∀ y ∈ xs, Kt K H y) ∧ ¬ (xs.length = high ∧ xs.all isInt = true)
theorem OddS.ext {K : PySem.W.Frag} {H H' : Hp} {high : Nat} {x : V} (h : OddS K H high x) (s : ExtN H H') : OddS K H' high x := by
  rcases h with ⟨T, t, r⟩ | ⟨q, xs, e, h1, h2, h3, h4⟩
  · exact .inl ⟨T, (Kd.ext s).ty t, r⟩
  · exact .inr ⟨q, xs, e, sqL_ext h1 s, h2, fun y hy => (h3 y hy).ext s, h4⟩
theorem kt_ints {K : PySem.W.Frag} {H : Hp} {ns : List Int} : ∀ y ∈ ns.map V.int, Kt K H y := fun y hy => by
  obtain ⟨n, _, rfl⟩ := List.mem_map.mp hy
  exact kt_int n
theorem cutV_but {xs : List V} (h : 1 ≤ xs.length) : cutV xs none (some (-1)) = xs.take (xs.length - 1) := by
  unfold cutV
  have e : HT.sIx xs.length xs.length (some (-1)) = xs.length - 1 := by
    show (if (-1 : Int) < 0 then ((-1 : Int) + (xs.length : Int)).toNat else min (-1 : Int).toNat xs.length) = _
    rw [if_pos (by decide)]
    omega
  rw [e, HT.sIx_none, List.drop_zero, Nat.sub_zero]
theorem cutV_1 (xs : List V) : cutV xs (some 1) none = xs.drop 1 := cutV_from xs 1
end Dt
namespace Dt
open PySem PySem.Spec PyProof.Rows L2 L2X LamX
open SX (S)
abbrev sLaw : Stmt := topS 47
abbrev nLaw : List Str := ["script", "draw", "turn", "picture", "times", "due", "k", "steps", "rows", "kept", "odd", "row", "step"]
theorem scLaw : FnScope nLaw ["script"] (defScope sLaw) := ⟨rfl, rfl, rfl, by decide +kernel, rfl, by decide +kernel, by decide +kernel⟩
def forBody : List Stmt := match (defBody sLaw).getD 1 (.Pass ⟨0, 0, 0, 0⟩) with
  | .For _ _ b _ _ => b
  | _ => []
def ifLam : Stmt → Scope
  | .If _ b _ _ => (match b.getD 0 (.Pass ⟨0, 0, 0, 0⟩) with
    | .If e _ _ _ => refLam e
    | _ => noSc)
  | _ => noSc
def lamTSc : Scope := ifLam (forBody.getD 6 (.Pass ⟨0, 0, 0, 0⟩))
def lamSSc : Scope := ifLam (forBody.getD 10 (.Pass ⟨0, 0, 0, 0⟩))
def lamOSc : Scope := match forBody.getD 12 (.Pass ⟨0, 0, 0, 0⟩) with
  | .If (.BoolOp _ (e :: _) _) _ _ _ => refLam e
  | _ => noSc
section
variable {P : Program} {w : World} {K : PySem.W.Frag} {mg : Str → Option Value} {base : Heap} {C CP fa cc PP : Addr} {s : Shared} {H : Hp} {TL : List (Addr × Str)}
/-- the law's own frame -/
abbrev xLaw (P : Program) (w : World) (K : PySem.W.Frag) (mg : Str → Option Value) (base : Heap) (fa cc : Addr) (s : Shared) (H : Hp) : Cx := (cxOf CX0 P w K mg base nLaw "law" (defScope sLaw) fa (.ref cc) callerA [] s H E0).nox
/-- all that the law calls -/
structure LawFs (P : Program) (w : World) (K : PySem.W.Frag) (mg : Str → Option Value) (base : Heap) (C CP : Addr) (TL : List (Addr × Str)) : Prop where
  tx : Tx mg
  zp : mg "zip" = none
  xB : Pm P w K mg base CX0 9 "_law_begun" ["script"] (spBegun K)
  xZ : Pm P w K mg base CX0 9 "_law_sized" ["draw"] spSized
  xN : Pm P w K mg base CX0 9 "_law_next" ["draw", "below"] spNext
  xK : Pm P w K mg base CX0 9 "_law_pick" ["draw", "some"] (spPick K)
  xD : Pm P w K mg base (L2.CX P w) 7 "dots" ["picture"] (spDots K)
  xL : Pm P w K mg base CX0 9 "_law_dots" ["picture"] (spDots K)
  xP : Pm P w K mg base CX0 9 "_law_part_right" ["draw", "picture"] (spPR TL)
  xQ : Pm P w K mg base CX0 9 "_law_quarter" ["picture"] spTO
  xT : Pm P w K mg base (L2.CX P w) 7 "turned" ["picture", "times"] (spTrn CP)
  xS : Pm P w K mg base (L2.CX P w) 7 "shifted" ["picture", "steps"] (spShf K CP)
  xM : Pm P w K mg base CX0 9 "_law_row_shifted" ["row", "step"] spLR
  xI : Pm P w K mg base CX0 9 "is_picture" ["thing"] (spIsPic K)
  RD : RefD P w K mg base CP 7
theorem law_run {dV kV doc pm ct oc : Value} {an od : Option Addr} {osl : Array (Option Value)} {s : Shared} {H : Hp} {a : Addr} {ns : List Int}
    (lk : K.lookup fa = some ⟨oc, od, .func (PySem.W.fnOf "law" "law" (defArgs sLaw) (defBody sLaw) (defScope sLaw) dV kV doc pm an (.ref cc) ct), osl⟩) (hcd : PySem.W.codeIn K (.ref cc) "law" = true)
    (hb : ∀ (s : Shared) (u : Value), BindsTo s (PySem.W.fnOf "law" "law" (defArgs sLaw) (defBody sLaw) (defScope sLaw) dV kV doc pm an (.ref cc) ct) ⟨[u], []⟩ [("script", u)])
    (L : LawFs P w K mg base C CP TL) (TB : TabB base mg cc PP) (hm1 : (PP, lamN "law" sLaw) ∈ TL) (hu1 : ∀ p ∈ TL, p.1 = PP → p.2 = lamN "law" sLaw) (hr10 : Room 10 callerA) (e0 : Env0 P w K mg base callerA [] s H) (hTb : Tabs TL H) (hS : SqL K H a (ns.map V.int)) (hl : ns.length ≤ 63) :
    codeAny (model P w) callerA (.call (.ref fa) ⟨[.ref a], []⟩) (CR CX0 [] P w H s (fun v _ => v = .bl true) E0) s := by
  refine run_ofS (N := nLaw) (ps := ["script"]) (us := [.ref a]) (vs := [.ref a]) lk hcd scLaw hr10 e0 (hb s (.ref a)) (.cons rfl .nil) rfl fun hr9 => ?_
  have nd := scLaw.nd
  have hu64 : (callerA.deeper (envOfC "law" (defScope sLaw) s.heap.objs.size fa (.ref cc))).units + 64 < cLine := by
    have := hr9.un
    omega
  have X0 := L.tx
  have hzp := L.zp
  obtain ⟨fB, fdB, GB, mB, kB, bB⟩ := L.xB.ex
  have hrB := hr9
  obtain ⟨fZ, fdZ, GZ, mZ, kZ, bZ⟩ := L.xZ.ex
  have hrZ := hr9
  obtain ⟨fN, fdN, GN, mN, kN, bN⟩ := L.xN.ex
  have hrN := hr9
  obtain ⟨fK, fdK, GK, mK, kK, bK⟩ := L.xK.ex
  have hrK := hr9
  obtain ⟨fD, fdD, GD, mD, kD, bD⟩ := L.xD.ex
  have hrD : Room 7 _ := hr9.mono (by decide)
  obtain ⟨fL, fdL, GL, mL, kL, bL⟩ := L.xL.ex
  have hrL := hr9
  obtain ⟨fP, fdP, GP, mP, kP, bP⟩ := L.xP.ex
  have hrP := hr9
  obtain ⟨fQ, fdQ, GQ, mQ, kQ, bQ⟩ := L.xQ.ex
  have hrQ := hr9
  obtain ⟨fT, fdT, GT, mT, kT, bT⟩ := L.xT.ex
  have hrT : Room 7 _ := hr9.mono (by decide)
  obtain ⟨fS, fdS, GS, mS, kS, bS⟩ := L.xS.ex
  have hrS : Room 7 _ := hr9.mono (by decide)
  obtain ⟨fM, fdM, GM, mM, kM, bM⟩ := L.xM.ex
  have hrM := hr9
  obtain ⟨fI, fdI, GI, mI, kI, bI⟩ := L.xI.ex
  have hrI := hr9
  obtain ⟨fW, fdW, GW, mW, kW, bW⟩ := L.RD.wd.ex
  obtain ⟨CD, mCD, exm⟩ := L.RD.CD
  obtain ⟨fR, fdR, FR, mR, bR⟩ := L.RD.R.ex
  have kR := FR.kp
  obtain ⟨ocR, odR, kVR, docR, pmR, anR, cdR, ctR, oslR, rfl, lkR, hcR⟩ := FR.ex
  have hG : GivesR (xLaw P w K mg base fa cc s H) 8 ["work", "error", "e"] "_law_refused" (defScope sRef) fR cdR (defBody sRef) "work" (lamQ (xLaw P w K mg base fa cc s H)) (TRef CP "place") := ref_gives (k := 7) GW mW kW bW mCD exm
  refine ⟨_, PSs.nox (pss_cons (ps_set (i := 1) nd rfl (.inr rfl) (pe_call GB hrB (by rfl) mB kB bB .nil pass0 (pa_cons (pv 0) pa_nil)))
      (pss_cons (ps_for PassesOwn.never rfl (pi_range1 rfl X0.range (pa_cons pe_int pa_nil)) (pg_name (i := 2) nd rfl (.inl rfl))
        (C8.pss_cut (ps_set (i := 3) nd rfl (.inr rfl) (pe_call GZ hrZ (by rfl) mZ kZ bZ .nil pass0 (pa_cons (pv 1) pa_nil)))
          (C8.pss_cut (ps_if (PW.pt (pw_or (pt_cmpR (op_neD hu64) (pe_call GD hrD (by rfl) mD kD bD .nil passX0 (pa_cons (pv 3) pa_nil)) (pe_call GL hrL (by rfl) mL kL bL .nil pass0 (pa_cons (pv 3) pa_nil)) (nomark _)) (pw_or1 (pt_not (pt_val (pe_call GP hrP (by rfl) mP kP bP .nil pass0 (pa_cons (pv 1) (pa_cons (pv 3) pa_nil)))))))) (pss_one (ps_ret pe_bl)) pss_nil)
          (C8.pss_cut (ps_expr (pe_bm0 PySem.F.plainAttrs_list PySem.F.slot_list_clear PySem.F.type_list_clear mt_clear (pe_call GD hrD (by rfl) mD kD bD .nil passX0 (pa_cons (pv 3) pa_nil))))
          (C8.pss_cut (ps_if (pt_cmpR (op_neD hu64) (pe_call GD hrD (by rfl) mD kD bD .nil passX0 (pa_cons (pv 3) pa_nil)) (pe_call GL hrL (by rfl) mL kL bL .nil pass0 (pa_cons (pv 3) pa_nil)) (nomark _)) (pss_one (ps_ret pe_bl)) pss_nil)
          (C8.pss_cut (ps_asg (pe_tup (pa_cons (pe_op op_add (pe_op op_sub (pe_call GN hrN (by rfl) mN kN bN .nil pass0 (pa_cons (pv 1) (pa_cons pe_int pa_nil))) pe_int) (pe_op op_mul pe_int (pe_call GK hrK (by rfl) mK kK bK .nil pass0 (pa_cons (pv 1) (pa_cons (pe_lst (pa_cons pe_int (pa_cons pe_int (pa_cons (pe_op op_pow pe_int pe_int) (pa_cons (pe_un un_neg (pe_op op_pow pe_int pe_int)) pa_nil))))) pa_nil))))) (pa_cons (pv 3) pa_nil))) (pg_tup rfl (pgs_cons (pg_name (i := 4) nd rfl (Or.inr rfl)) (pgs_cons (pg_name (i := 5) nd rfl (Or.inl rfl)) pgs_nil))))
          (C8.pss_cut (ps_for PassesOwn.never rfl (pi_range1 rfl X0.range (pa_cons (pe_op op_mod (pv 4) pe_int) pa_nil)) (pg_name (i := 6) nd rfl (.inl rfl)) (pss_one (ps_set (i := 5) nd rfl (.inl rfl) (pe_call GQ hrQ (by rfl) mQ kQ bQ .nil pass0 (pa_cons (pv 5) pa_nil)))))
          (C8.pss_cut (ps_if (pt_cmpR op_gt (pe_callB call_len_seq (by rfl) X0.len PySem.boot_len (pa_cons (pv 5) pa_nil)) pe_int (nomark _)) (pss_one (ps_if (pt_cmpR op_ne (pe_lamcallR (k := 7) (T := TL) (TT := TRef CP "place") (t := fun E => tCallS (spTrn CP) (WE fun cls d _ H => E cls d H) (tCons (tVar 3) (tCons (tVar 4) tNil))) (by rfl) mR kR lkR hcR bR scRef rfl (.inl rfl) hG TB rfl hm1 hu1 hr9 (lamS_by (show lamSB (defScope sLaw) lamTSc = true by decide +kernel)) rfl (fun _ _ _ _ _ => rfl) (fun A outer s H E f c hr => pe_callS GT hr (by rfl) mT kT bT (fun σ => passAt (takes_of rfl rfl rfl rfl) σ) (pa_cons (pv 3) (pa_cons (pv 4) pa_nil)))) pe_str (nomark _)) (pss_one (ps_ret pe_bl)) pss_nil)) (pss_one (ps_if (pt_cmpR (op_neD hu64) (pe_call GT hrT (by rfl) mT kT bT .nil passX0 (pa_cons (pv 3) (pa_cons (pv 4) pa_nil))) (pv 5) (nomark _)) (pss_one (ps_ret pe_bl)) pss_nil)))
          (C8.pss_cut (ps_set (i := 7) nd rfl (.inr rfl) (pe_lc (own := [("row", 11)]) (g := gName 11) (tt := tYes) rfl nd (pi_tup (pv 3)) (blkOk_by (N := nLaw) (sc := defScope sLaw) (by decide +kernel)) (fun _ _ _ _ _ => pg_name (i := 11) nd rfl (Or.inl rfl)) (fun _ _ _ _ _ => pts_nil) (fun _ _ _ _ _ => (pe_call GK hrK (by rfl) mK kK bK .nil pass0 (pa_cons (pv 1) (pa_cons (pe_lst (pa_cons pe_int (pa_cons pe_int (pa_cons (pe_un un_neg pe_int) (pa_cons (pe_op op_sub (pe_call GN hrN (by rfl) mN kN bN .nil pass0 (pa_cons (pv 1) (pa_cons pe_int pa_nil))) pe_int) (pa_cons pe_int (pa_cons (pe_un un_neg (pe_op op_pow pe_int pe_int)) pa_nil))))))) pa_nil))))))
          (C8.pss_cut (ps_setLc (i := 8) (own := [("row", 11), ("step", 12)]) (g := gTup K 2 (gCons (gName 11) (gCons (gName 12) gNil))) (tt := tYes) (by rfl) nd rfl rfl (sw_true rfl rfl rfl (by decide +kernel)) (pi_zipG (by rfl) hzp (pa_cons (pv 3) (pa_cons (pv 7) pa_nil))) (blkOk_by (N := nLaw) (sc := defScope sLaw) (by decide +kernel)) (fun _ _ _ _ _ => pg_tup rfl (pgs_cons (pg_name (i := 11) nd rfl (Or.inl rfl)) (pgs_cons (pg_name (i := 12) nd rfl (Or.inl rfl)) pgs_nil))) (fun _ _ _ _ _ => pts_nil) (fun _ _ _ _ _ => (pe_call GM hrM (by rfl) mM kM bM .nil pass0 (pa_cons (pv 11) (pa_cons (pv 12) pa_nil)))))
          (C8.pss_cut (ps_set (i := 9) nd rfl (.inl rfl) (pe_callTy call_list_of (by rfl) X0.list (by decide +kernel) (pa_cons (pv 7) pa_nil)))
          (C8.pss_cut (ps_if (pt_cmpR op_in_seq pe_non (pv 8) (by with_unfolding_all rfl)) (pss_one (ps_if (pt_cmpR op_ne (pe_lamcallR (k := 7) (T := TL) (TT := TRef CP "place") (t := fun E => tCallS (spShf K CP) (WE fun cls d _ H => E cls d H) (tCons (tVar 3) (tCons (tVar 7) tNil))) (by rfl) mR kR lkR hcR bR scRef rfl (.inl rfl) hG TB rfl hm1 hu1 hr9 (lamS_by (show lamSB (defScope sLaw) lamSSc = true by decide +kernel)) rfl (fun _ _ _ _ _ => rfl) (fun A outer s H E f c hr => pe_callS GS hr (by rfl) mS kS bS (fun σ => passAt (takes_of rfl rfl rfl rfl) σ) (pa_cons (pv 3) (pa_cons (pv 7) pa_nil)))) pe_str (nomark _)) (pss_one (ps_ret pe_bl)) pss_nil)) (pss_one (ps_if (PW.pt (pw_or (pt_cmpR (op_neD hu64) (pe_call GS hrS (by rfl) mS kS bS .nil passX0 (pa_cons (pv 3) (pa_cons (pv 7) pa_nil))) (pe_callTy call_tuple_of (by rfl) X0.tuple (by decide +kernel) (pa_cons (pv 8) pa_nil)) (nomark _)) (pw_or1 (pt_cmpR (op_neD hu64) (pe_call GS hrS (by rfl) mS kS bS .nil passX0 (pa_cons (pv 3) (pa_cons (pe_callTy call_tuple_of (by rfl) X0.tuple (by decide +kernel) (pa_cons (pv 7) pa_nil)) pa_nil))) (pe_callTy call_tuple_of (by rfl) X0.tuple (by decide +kernel) (pa_cons (pv 8) pa_nil)) (nomark _))))) (pss_one (ps_ret pe_bl)) pss_nil)))
          (C8.pss_cut (ps_set (i := 10) nd rfl (.inr rfl) (pe_call GK hrK (by rfl) mK kK bK .nil pass0 (pa_cons (pv 1) (pa_cons (pe_lst (pa_cons (pe_slice sl_list (pv 7) (po_some pe_int) po_none) (pa_cons (pe_op op_cat (pv 7) (pe_lst (pa_cons pe_int pa_nil))) (pa_cons pe_non (pa_cons pe_int (pa_cons pe_str (pa_cons pe_dnewK (pa_cons (pe_op op_cat (pe_lst (pa_cons pe_non pa_nil)) (pe_slice sl_list (pv 7) (po_some pe_int) po_none)) (pa_cons (pe_op op_cat (pe_slice sl_list (pv 7) po_none (po_some (pe_un un_neg pe_int))) (pe_lst (pa_cons pe_bl pa_nil))) pa_nil))))))))) pa_nil))))
          (pss_one (ps_if (PW.pt (pw_or (pt_cmpR op_ne (pe_lamcallR (k := 7) (T := TL) (TT := TRef CP "place") (t := fun E => tCallS (spShf K CP) (WE fun cls d _ H => E cls d H) (tCons (tVar 3) (tCons (tVar 10) tNil))) (by rfl) mR kR lkR hcR bR scRef rfl (.inl rfl) hG TB rfl hm1 hu1 hr9 (lamS_by (show lamSB (defScope sLaw) lamOSc = true by decide +kernel)) rfl (fun _ _ _ _ _ => rfl) (fun A outer s H E f c hr => pe_callS GS hr (by rfl) mS kS bS (fun σ => passAt (takes_of rfl rfl rfl rfl) σ) (pa_cons (pv 3) (pa_cons (pv 10) pa_nil)))) pe_str (nomark _)) (pw_or (pt_cmpR (op_neD hu64) (pv 7) (pv 9) (nomark _)) (pw_or1 (pt_not (pt_val (pe_call GI hrI (by rfl) mI kI bI .nil pass0 (pa_cons (pv 3) pa_nil)))))))) (pss_one (ps_ret pe_bl)) pss_nil)))))))))))))))
      (pss_one (ps_ret pe_bl)))), ?_⟩
  generalize hTT : TL = TQ at hTb ⊢
  refine ⟨.ref a, rfl, a, ns, rfl, hS, hl, fun d g c H1 sm1 _ _ D1 => ?_⟩
  have T1 := hTb.ext sm1
  subst hTT
  refine ⟨5, rfl, by decide, by decide, for_range (lo := 0) (n := 5) (fun _ σ H2 => ∃ y2 y3 y4 y5 y6 y7 y8 y9 y10, σ = [some (.ref a), some (.ref d), y2, y3, y4, y5, y6, y7, y8, y9, y10, none, none] ∧ Dr H2 d g c ∧ Tabs TL H2) ⟨none, none, none, none, none, none, none, none, none, rfl, D1, T1⟩ ?_ ?_⟩
  · rintro i σ H2 hi ⟨y2, y3, y4, y5, y6, y7, y8, y9, y10, rfl, D2, T2⟩
    refine ⟨fun σ' H' => ∃ (pa : Addr) (high wide : Nat) (rs : List (List Nat)), σ' = [some (.ref a), some (.ref d), some (.int (0 + i)), some (.ref pa), y4, y5, y6, y7, y8, y9, y10, none, none] ∧ PicR high wide rs ∧ H' pa = some (.tup (rs.map rv)) ∧ Dr H' d g c ∧ Tabs TL H', ?_, ?_⟩
    · exact ⟨.ref d, rfl, d, g, c, rfl, D2, fun high wide pa rs H3 pr _ hpa D3 dn3 => ⟨pa, high, wide, rs, rfl, pr, hpa, D3, Dn.tabs dn3 D2 T2⟩⟩
    rintro _ H3 ⟨pa, high, wide, rs, rfl, pr, hpa3, D3, T3⟩
    generalize (V.int (0 + i)) = tv
    have pz := picSize pr
    have hh0 := pr.h0
    have hh1 := pr.h1
    have hw0 := pr.w0
    have hw1 := pr.w1
    have hlen := pr.len
    have e1place : (!decide (V.str "place" = V.str "place")) = false := by
      rw [decide_eq_true rfl]
      rfl
    -- dots; a part
    refine ⟨fun σ' H' => σ' = [some (.ref a), some (.ref d), some tv, some (.ref pa), y4, y5, y6, y7, y8, y9, y10, none, none] ∧ H' pa = some (.tup (rs.map rv)) ∧ Dr H' d g c ∧ Tabs TL H', ?_, ?_⟩
    · refine ⟨.ref pa, rfl, pa, high, wide, rs, rfl, hpa3, pr, fun E1 xs1 Ha sa na ha pla la => ⟨.ref pa, rfl, pa, high, wide, rs, rfl, sa _ _ hpa3, pr, fun E2 xs2 Hb sb nb hb' plb lb => ?_⟩⟩
      have sab := sa.trans sb
      refine ⟨.list ((dotsP rs).map pD), .list ((dotsP rs).map pD), .lst (SqL.of (sb _ _ ha)) (dp_places (pla.same sb)), .lst (SqL.of hb') (dp_places plb), shaped_places _, shaped_places _, _, rfl, iteE (eqvP _) ?_⟩
      refine ⟨.ref d, rfl, .ref pa, rfl, d, g, c, pa, high, wide, rs, rfl, D3.same sab, sab _ _ hpa3, pr, T3.ext sab, fun Hc Dc Tc kc => ⟨_, rfl, iteF ?_⟩⟩
      exact ⟨rfl, kc _ _ (sab _ _ hpa3), Dc, Tc⟩
    rintro _ H4 ⟨rfl, hpa4, D4, T4⟩
    clear hpa3 D3 T3
    -- cleared
    refine ⟨fun σ' H' => σ' = [some (.ref a), some (.ref d), some tv, some (.ref pa), y4, y5, y6, y7, y8, y9, y10, none, none] ∧ Same H4 H', ?_, ?_⟩
    · refine ⟨.ref pa, rfl, pa, high, wide, rs, rfl, hpa4, pr, fun E1 xs1 Ha sa na ha pla la => ⟨.inl ⟨rfl, _, SqL.of ha⟩, E1, xs1, rfl, rfl, ha, rfl, same_over sa na⟩⟩
    rintro _ H5 ⟨rfl, sm5⟩
    refine ⟨fun σ' H' => σ' = [some (.ref a), some (.ref d), some tv, some (.ref pa), y4, y5, y6, y7, y8, y9, y10, none, none] ∧ Same H5 H', ?_, ?_⟩
    · refine ⟨.ref pa, rfl, pa, high, wide, rs, rfl, sm5 _ _ hpa4, pr, fun E1 xs1 Ha sa na ha pla la => ⟨.ref pa, rfl, pa, high, wide, rs, rfl, sa _ _ (sm5 _ _ hpa4), pr, fun E2 xs2 Hb sb nb hb' plb lb => ?_⟩⟩
      exact ⟨.list ((dotsP rs).map pD), .list ((dotsP rs).map pD), .lst (SqL.of (sb _ _ ha)) (dp_places (pla.same sb)), .lst (SqL.of hb') (dp_places plb), shaped_places _, shaped_places _, _, rfl, iteE (eqvP _) ⟨rfl, sa.trans sb⟩⟩
    rintro _ H6 ⟨rfl, sm6⟩
    have s46 := sm5.trans sm6
    have hpa6 := s46 _ _ hpa4
    have D6 := D4.same s46
    have T6 := T4.ext s46
    clear hpa4 D4 T4 sm5 sm6 s46 H5
    -- times, due
    refine ⟨fun σ' H' => ∃ t : Int, σ' = [some (.ref a), some (.ref d), some tv, some (.ref pa), some (.int t), some (.ref pa), y6, y7, y8, y9, y10, none, none] ∧ H' pa = some (.tup (rs.map rv)) ∧ Dr H' d g c ∧ Tabs TL H', ?_, ?_⟩
    · refine ⟨.ref d, rfl, d, g, c, 19, rfl, D6, by decide, by decide, fun n Ha n0 n1 Da dna => ⟨n, 9, rfl, rfl, .ref d, rfl, 10, 39, rfl, rfl, ⟨by decide, by decide, by decide⟩, 10, 39, rfl, rfl, ⟨by decide, by decide, by decide⟩, _, rfl, by show 4 ≤ sizeLine; decide, fun ol hol => ?_⟩⟩
      have s1 := same_upd (o := .lst [V.int 0, V.int 0, V.int (10 ^ Int.toNat 39), V.int (-(10 ^ Int.toNat 39))]) hol
      refine ⟨d, g, c, ol, _, rfl, Da.same s1, upd_same, (Da.newc hol).2.1, by show 0 < 4; decide, by show 4 ≤ 1000; decide, fun j x Hb hx Db dnb => ?_⟩
      obtain ⟨bg, rfl⟩ : ∃ bg, x = .int bg := by
        match j, hx with
        | 0, hx => cases hx; exact ⟨_, rfl⟩
        | 1, hx => cases hx; exact ⟨_, rfl⟩
        | 2, hx => cases hx; exact ⟨_, rfl⟩
        | 3, hx => cases hx; exact ⟨_, rfl⟩
        | j + 4, hx => exact nomatch hx
      refine ⟨4, bg, rfl, rfl, .inl ⟨by decide, by decide⟩, n - 9, 4 * bg, rfl, rfl, .ref pa, rfl, by show 2 ≤ sizeLine; decide, fun t ht => ?_⟩
      have s2 := same_upd (o := .tup [V.int (n - 9 + 4 * bg), V.ref pa]) ht
      refine ⟨t, _, rfl, SqT.of upd_same, rfl, _, _, rfl, _, _, rfl, rfl, n - 9 + 4 * bg, rfl, s2 _ _ (dnb.tup (Da.same s1) (s1 _ _ (dna.tup D6 hpa6))), Db.same s2, (Dn.tabs dnb (Da.same s1) ((Dn.tabs dna D6 T6).ext s1)).ext s2⟩
    rintro _ H7 ⟨t, rfl, hpa7, D7, T7⟩
    clear hpa6 D6 T6
    have m0 : 0 ≤ t % 4 := Int.emod_nonneg _ (by decide)
    have m1 : t % 4 < 4 := Int.emod_lt_of_pos _ (by decide)
    -- due turned
    refine ⟨fun σ' H' => ∃ (p : Addr) (y6 : Option V), σ' = [some (.ref a), some (.ref d), some tv, some (.ref pa), some (.int t), some (.ref p), y6, y7, y8, y9, y10, none, none] ∧ H' p = some (.tup ((turnK (t % 4).toNat rs).map rv)) ∧ Same H7 H', ?_, ?_⟩
    · refine ⟨.int t, rfl, t, 4, rfl, rfl, (by show (0 : Int) < 4; decide), t % 4, rfl, by omega, by omega, for_range (lo := 0) (n := (t % 4).toNat) (fun i σ H' => ∃ (p : Addr) (y6 : Option V), σ = [some (.ref a), some (.ref d), some tv, some (.ref pa), some (.int t), some (.ref p), y6, y7, y8, y9, y10, none, none] ∧ H' p = some (.tup ((turnK i rs).map rv)) ∧ Same H7 H') ⟨pa, y6, rfl, hpa7, Same.refl _⟩ ?_ ?_⟩
      · rintro j σ Ha hj ⟨p, y6', rfl, hp, sm⟩
        exact ⟨.ref p, rfl, p, _, _, turnK j rs, rfl, hp, turnK_big pr.big j, fun p2 Hb sb nb hb' => ⟨p2, _, rfl, hb', sm.trans sb⟩⟩
      · rintro σ Ha ⟨p, y6', rfl, hp, sm⟩
        exact ⟨p, y6', rfl, hp, sm⟩
    rintro _ H8 ⟨due, y6', rfl, hdue, sm8⟩
    have hpa8 := sm8 _ _ hpa7
    have D8 := D7.same sm8
    have T8 := T7.ext sm8
    clear hpa7 D7 T7 sm8
    have BG := turnK_big pr.big (t % 4).toNat
    -- turned
    refine ⟨fun σ' H' => ∃ y4 y5, σ' = [some (.ref a), some (.ref d), some tv, some (.ref pa), y4, y5, y6', y7, y8, y9, y10, none, none] ∧ H' pa = some (.tup (rs.map rv)) ∧ Dr H' d g c ∧ Tabs TL H', ?_, ?_⟩
    · refine ⟨.ref due, rfl, due, _, rfl, .inr (SqT.of hdue), _, 60, rfl, rfl, _, rfl, ?_⟩
      rw [List.length_map, BG.r.len]
      by_cases cs : t % 4 % 2 = 1 ∧ 60 < wide
      · have c1 : (t % 4).toNat % 2 = 1 := by omega
        refine iteY (by rw [if_pos c1]; exact decide_eq_true (by omega)) ⟨T8, fun Ha ext tabs => fun R => ?_⟩
        refine ⟨.ref pa, rfl, .int t, rfl, pa, high, wide, rs, t, rfl, ext_tup ext hpa8, pr, fun _ Hb sb => ⟨rfl, rfl, fun Hc sc => ⟨rfl, _, rfl, iteE e1place ?_⟩⟩, fun ng => absurd cs ng⟩
        have sbc := sb.trans sc
        exact ⟨_, _, rfl, sbc _ _ (ext_tup ext hpa8), (D8.ext ext).same sbc, tabs.ext sbc⟩
      · have c1 : ¬ (60 < if (t % 4).toNat % 2 = 1 then wide else high) := by
          by_cases c2 : (t % 4).toNat % 2 = 1
          · rw [if_pos c2]
            intro z
            exact cs ⟨by omega, z⟩
          · rw [if_neg c2]
            omega
        refine iteE (decide_eq_false (by omega)) ?_
        refine ⟨.ref pa, rfl, .int t, rfl, pa, high, wide, rs, t, rfl, hpa8, pr, fun g => absurd g cs, fun _ p2 Hb sb hp2 => ?_⟩
        exact ⟨.ref due, rfl, .tuple ((turnK (t % 4).toNat rs).map rD), .tuple ((turnK (t % 4).toNat rs).map rD), .tup (SqT.of hp2) (dp_rows _), .tup (SqT.of (sb _ _ hdue)) (dp_rows _), shaped_rows BG.r, shaped_rows BG.r, _, rfl, iteE (eqvR _) ⟨_, _, rfl, sb _ _ hpa8, D8.same sb, T8.ext sb⟩⟩
    rintro _ H9 ⟨z4, z5, rfl, hpa9, D9, T9⟩
    clear hpa8 D8 T8 hdue BG
    -- steps
    refine ⟨fun σ' H' => ∃ (l : Addr) (ns : List Int), σ' = [some (.ref a), some (.ref d), some tv, some (.ref pa), z4, z5, y6', some (.ref l), y8, y9, y10, none, none] ∧ H' l = some (.lst (ns.map V.int)) ∧ ns.length = high ∧ l ≠ d ∧ l ≠ g ∧ H' pa = some (.tup (rs.map rv)) ∧ Dr H' d g c ∧ Tabs TL H', ?_, ?_⟩
    · refine ⟨.ref pa, rfl, pa, rfl, ⟨_, SqT.of hpa9⟩, fun l hl0 => ?_⟩
      obtain ⟨nld, nlg, nlc⟩ := D9.newc hl0
      have s0 := same_upd (o := .lst []) hl0
      refine lc_tup (K := K) (a := pa) (xs := rs.map rv) (fun i Ha => ∃ ns : List Int, ns.length = i ∧ Ha l = some (.lst (ns.map V.int)) ∧ Ha pa = some (.tup (rs.map rv)) ∧ Dr Ha d g c ∧ Tabs TL Ha) ⟨[], rfl, upd_same, s0 _ _ hpa9, D9.same s0, T9.ext s0⟩ (fun i Ha _ z => SqT.of z.choose_spec.2.2.1) ?_ ?_
      · rintro i x Ha hi ⟨ns, hn, hla, hpaa, Da, Ta⟩
        have hil : i < rs.length := by
          have := (List.getElem?_eq_some_iff.mp hi).1
          rw [List.length_map] at this
          exact this
        refine ⟨rfl, .ref d, rfl, 1, rfl, .ref d, rfl, d, g, c, 9, rfl, Da, by decide, by decide, fun n Hb _ _ Db dnb => ⟨n, 4, rfl, rfl, 10, 6, rfl, rfl, ⟨by decide, by decide, by decide⟩, _, rfl, by show 6 ≤ sizeLine; decide, fun ol hol => ?_⟩⟩
        have s1 := same_upd (o := .lst [V.int 0, V.int 1, V.int (-1), V.int (n - 4), V.int 200, V.int (-(10 ^ Int.toNat 6))]) hol
        refine ⟨d, g, c, ol, _, rfl, Db.same s1, upd_same, (Db.newc hol).2.1, by show 0 < 6; decide, by show 6 ≤ 1000; decide, fun j x Hc hx Dc dnc => ?_⟩
        obtain ⟨st, rfl⟩ : ∃ st, x = .int st := by
          match j, hx with
          | 0, hx => cases hx; exact ⟨_, rfl⟩
          | 1, hx => cases hx; exact ⟨_, rfl⟩
          | 2, hx => cases hx; exact ⟨_, rfl⟩
          | 3, hx => cases hx; exact ⟨_, rfl⟩
          | 4, hx => cases hx; exact ⟨_, rfl⟩
          | 5, hx => cases hx; exact ⟨_, rfl⟩
          | j + 6, hx => exact nomatch hx
        have hlc := dnc _ _ (s1 _ _ (dnb _ _ hla nld nlg)) nld nlg
        have hpac := dnc.tup (Db.same s1) (s1 _ _ (dnb.tup Da hpaa))
        have Tc := Dn.tabs dnc (Db.same s1) ((Dn.tabs dnb Da Ta).ext s1)
        refine ⟨_, hlc, ?_, ns ++ [st], by rw [List.length_append, hn]; rfl, ?_, ?_, Dc.updl nld nlg nlc, Tabs.updl Tc hlc⟩
        · rw [List.length_map]
          exact smallT (by omega)
        · rw [upd_same, List.map_append]
          rfl
        · rw [upd_ne (ne_of hpac hlc (by intro z; cases z))]
          exact hpac
      · rintro Ha ⟨ns, hn, hla, hpaa, Da, Ta⟩
        rw [List.length_map] at hn
        exact ⟨l, ns, rfl, hla, by omega, nld, nlg, hpaa, Da, Ta⟩
    rintro _ HA ⟨l, ns, rfl, hlA, hns, nld, nlg, hpaA, DA, TA⟩
    clear hpa9 D9 T9
    -- rows
    refine ⟨fun σ' H' => ∃ (ro : Addr), σ' = [some (.ref a), some (.ref d), some tv, some (.ref pa), z4, z5, y6', some (.ref l), some (.ref ro), y9, y10, none, none] ∧ Same HA H' ∧ H' ro = some (.lst (((rs.zip ns).map fun p => shiftL p.1 p.2).map optV)), ?_, ?_⟩
    · refine ⟨.ref pa, rfl, .ref l, rfl, .tup pa, .lst l, rs.map rv, ns.map V.int, rfl, SqT.of hpaA, SqL.of hlA, fun ro hro => lc_zipG (K := K) (A := .tup pa) (B := .lst l) (xs := rs.map rv) (ys := ns.map V.int) ?_
        (fun i Ha => Same HA Ha ∧ Ha ro = some (.lst ((((rs.zip ns).take i).map fun p => shiftL p.1 p.2).map optV))) ⟨same_upd hro, upd_same⟩ (fun i Ha _ z => ⟨SqT.of (z.1 _ _ hpaA), SqL.of (z.1 _ _ hlA)⟩) ?_ ?_⟩
      · rw [List.length_map, List.length_map, hlen, hns]
      · rintro i x y Ha Tt hx hy ⟨sm, ha⟩ hTt
        obtain ⟨r, hr', rfl⟩ := map_at hx
        obtain ⟨st, hs', rfl⟩ := map_at hy
        have hz : (rs.zip ns)[i]? = some (r, st) := List.getElem?_zip_eq_some.mpr ⟨hr', hs'⟩
        have sT := same_upd (o := .tup [rv r, V.int st]) hTt
        have hil : i < rs.length := (List.getElem?_eq_some_iff.mp hr').1
        refine ⟨Tt, _, rfl, SqT.of upd_same, rfl, _, _, rfl, _, _, rfl, rfl, rfl, rv r, rfl, .int st, rfl, r, st, wide, rfl, pr.row r (List.mem_of_getElem? hr'), hw1, fun Hb sb => ?_⟩
        refine ⟨_, sb _ _ (sT _ _ ha), ?_, same_over ((sm.trans sT).trans sb) hro, ?_⟩
        · rw [List.length_map, List.length_map, List.length_take]
          exact smallT (by omega)
        · rw [upd_same, take_snoc hz, List.map_append, List.map_append]
          rfl
      · rintro Ha ⟨sm, ha⟩
        have e : (rs.zip ns).take (rs.map rv).length = rs.zip ns := by
          apply List.take_of_length_le
          rw [List.length_map, List.length_zip]
          omega
        rw [e] at ha
        exact ⟨ro, rfl, sm, ha⟩
    rintro _ HB ⟨ro, rfl, smB, hroB⟩
    -- kept
    refine ⟨fun σ' H' => ∃ (k : Addr), σ' = [some (.ref a), some (.ref d), some tv, some (.ref pa), z4, z5, y6', some (.ref l), some (.ref ro), some (.ref k), y10, none, none] ∧ Same HB H' ∧ H' k = some (.lst (ns.map V.int)) ∧ k ≠ d ∧ k ≠ g, ?_, ?_⟩
    · refine ⟨.ref l, rfl, l, _, rfl, .inl (SqL.of (smB _ _ hlA)), fun k hk => ⟨k, rfl, same_upd hk, upd_same, ?_, ?_⟩⟩
      · exact ((DA.same smB).newc hk).1
      · exact ((DA.same smB).newc hk).2.1
    rintro _ HC ⟨k, rfl, smC, hkC, nkd, nkg⟩
    have sAC := smB.trans smC
    have hroC := smC _ _ hroB
    have hlC := sAC _ _ hlA
    have hpaC := sAC _ _ hpaA
    have DC := DA.same sAC
    have TC := TA.ext sAC
    clear hroB hlA hpaA DA TA smB smC sAC
    -- shifted
    refine ⟨fun σ' H' => ∃ y8, σ' = [some (.ref a), some (.ref d), some tv, some (.ref pa), z4, z5, y6', some (.ref l), y8, some (.ref k), y10, none, none] ∧ H' l = some (.lst (ns.map V.int)) ∧ H' k = some (.lst (ns.map V.int)) ∧ H' pa = some (.tup (rs.map rv)) ∧ Dr H' d g c ∧ Tabs TL H', ?_, ?_⟩
    · refine ⟨.ref ro, rfl, ro, _, rfl, .inl (SqL.of hroC), rfl, opt_flat _, _, rfl, ?_⟩
      have ec : (if false = true then !inV V.non (((rs.zip ns).map fun p => shiftL p.1 p.2).map optV) else inV V.non (((rs.zip ns).map fun p => shiftL p.1 p.2).map optV)) = ((rs.zip ns).map fun p => shiftL p.1 p.2).any (·.isNone) := by
        rw [if_neg Bool.false_ne_true, inV_opt]
      have iffy : (∀ p ∈ rs.zip ns, (shiftL p.1 p.2).isSome = true) ↔ ((rs.zip ns).map fun p => shiftL p.1 p.2).any (·.isNone) = false := by
        rw [List.any_map, List.any_eq_false]
        constructor
        · intro h p hp z
          have := h p hp
          have z' : (shiftL p.1 p.2).isNone = true := z
          rw [Option.isNone_iff_eq_none] at z'
          rw [z'] at this
          cases this
        · intro h p hp
          have z := h p hp
          cases e : shiftL p.1 p.2 with
          | some m => rfl
          | none => exact absurd (by show (shiftL p.1 p.2).isNone = true; rw [e]; rfl) z
      cases ea : ((rs.zip ns).map fun p => shiftL p.1 p.2).any (·.isNone) with
      | true =>
        refine iteY (ec.trans ea) ⟨TC, fun Ha ext tabs => fun R => ?_⟩
        refine ⟨.ref pa, rfl, .ref l, rfl, pa, .ref l, high, wide, rs, rfl, ext_tup ext hpaC, pr, .inr (.inr ⟨true, l, ns, rfl, SqL.of (ext _ _ hlC (fun _ z => nomatch z)), hns, fun al => absurd (ea.symm.trans (iffy.mp al)).symm Bool.false_ne_true, fun _ Hb sb => ⟨rfl, rfl, fun Hc sc => ⟨rfl, _, rfl, iteE e1place ?_⟩⟩⟩)⟩
        have sbc := sb.trans sc
        exact ⟨_, rfl, sbc _ _ (ext _ _ hlC (fun _ z => nomatch z)), sbc _ _ (ext _ _ hkC (fun _ z => nomatch z)), sbc _ _ (ext_tup ext hpaC), (DC.ext ext).same sbc, tabs.ext sbc⟩
      | false =>
        have al := iffy.mpr ea
        have hro2 := opt_some ea
        rw [List.map_map (g := fun o : Option (List Nat) => o.getD [])] at hro2
        rw [hro2] at hroC
        have RZ := zip_row pr hns al
        refine iteE (ec.trans ea) ?_
        refine ⟨.ref pa, rfl, .ref l, rfl, pa, .ref l, high, wide, rs, rfl, hpaC, pr, .inr (.inr ⟨true, l, ns, rfl, SqL.of hlC, hns, fun _ p Ha sa na hp => ?_, fun na => absurd al na⟩)⟩
        refine ⟨.ref ro, rfl, ro, _, rfl, .inl ⟨SqL.of (sa _ _ hroC), fun t1 ht1 => ?_⟩⟩
        have s1 := same_upd (o := .tup (((rs.zip ns).map fun p => (shiftL p.1 p.2).getD []).map rv)) ht1
        refine ⟨.tuple (((rs.zip ns).map fun p => (shiftL p.1 p.2).getD []).map rD), .tuple (((rs.zip ns).map fun p => (shiftL p.1 p.2).getD []).map rD), .tup (SqT.of (s1 _ _ hp)) (dp_rows _), .tup (SqT.of upd_same) (dp_rows _), shaped_rows RZ, shaped_rows RZ, _, rfl, iteE (eqvR _) ?_⟩
        have sa1 := sa.trans s1
        refine ⟨.ref pa, rfl, .ref l, rfl, l, _, rfl, .inl ⟨SqL.of (sa1 _ _ hlC), fun t2 ht2 => ?_⟩⟩
        have s2 := same_upd (o := .tup (ns.map V.int)) ht2
        have sa2 := sa1.trans s2
        refine ⟨pa, .ref t2, high, wide, rs, rfl, sa2 _ _ hpaC, pr, .inr (.inr ⟨false, t2, ns, rfl, SqT.of upd_same, hns, fun _ p3 Hb sb nb hp3 => ?_, fun na => absurd al na⟩)⟩
        have sab := sa2.trans sb
        refine ⟨.ref ro, rfl, ro, _, rfl, .inl ⟨SqL.of (sab _ _ hroC), fun t3 ht3 => ?_⟩⟩
        have s3 := same_upd (o := .tup (((rs.zip ns).map fun p => (shiftL p.1 p.2).getD []).map rv)) ht3
        have sA := sab.trans s3
        exact ⟨.tuple (((rs.zip ns).map fun p => (shiftL p.1 p.2).getD []).map rD), .tuple (((rs.zip ns).map fun p => (shiftL p.1 p.2).getD []).map rD), .tup (SqT.of (s3 _ _ hp3)) (dp_rows _), .tup (SqT.of upd_same) (dp_rows _), shaped_rows RZ, shaped_rows RZ, _, rfl, iteE (eqvR _) ⟨_, rfl, sA _ _ hlC, sA _ _ hkC, sA _ _ hpaC, DC.same sA, TC.ext sA⟩⟩
    rintro _ HD ⟨z8, rfl, hlD, hkD, hpaD, DD, TD⟩
    clear hroC hlC hkC hpaC DC TC
    -- odd
    refine ⟨fun σ' H' => ∃ x, σ' = [some (.ref a), some (.ref d), some tv, some (.ref pa), z4, z5, y6', some (.ref l), z8, some (.ref k), some x, none, none] ∧ OddS K H' high x ∧ H' l = some (.lst (ns.map V.int)) ∧ H' k = some (.lst (ns.map V.int)) ∧ H' pa = some (.tup (rs.map rv)) ∧ Dr H' d g c ∧ Tabs TL H', ?_, ?_⟩
    · have lm : (ns.map V.int).length = high := by rw [List.length_map, hns]
      refine ⟨.ref d, rfl, .ref l, rfl, 1, rfl, l, _, rfl, SqL.of hlD, fun p1 hp1 => ?_⟩
      have s1 := same_upd (o := .lst (cutV (ns.map V.int) (some 1) none)) hp1
      refine ⟨.ref l, rfl, by show 1 ≤ sizeLine; decide, fun q2 hq2 => ?_⟩
      have s2 := same_upd (o := .lst [V.int 0]) hq2
      have hl2 := (s1.trans s2) _ _ hlD
      refine ⟨l, q2, _, _, rfl, rfl, hl2, upd_same, by rw [lm]; exact Nat.le_of_lt (smallT (by show high + 1 < 100000; omega)), fun p2 hp2 => ?_⟩
      have s3 := same_upd (o := .lst (ns.map V.int ++ [V.int 0])) hp2
      have s123 := (s1.trans s2).trans s3
      refine fun e4 he4 => ?_
      have s4 := same_upd (o := .dK []) he4
      refine ⟨by show 1 ≤ sizeLine; decide, fun q5 hq5 => ?_⟩
      have s5 := same_upd (o := .lst [V.non]) hq5
      have s15 := (s123.trans s4).trans s5
      refine ⟨.ref l, rfl, 1, rfl, l, _, rfl, SqL.of (s15 _ _ hlD), fun p6 hp6 => ?_⟩
      have s6 := same_upd (o := .lst (cutV (ns.map V.int) (some 1) none)) hp6
      have lc1 : (cutV (ns.map V.int) (some 1) none).length = high - 1 := by rw [cutV_1, List.length_drop, lm]
      refine ⟨q5, p6, _, _, rfl, rfl, s6 _ _ upd_same, upd_same, by rw [lc1]; exact Nat.le_of_lt (smallT (by show 1 + (high - 1) < 100000; omega)), fun p7 hp7 => ?_⟩
      have s7 := same_upd (o := .lst ([V.non] ++ cutV (ns.map V.int) (some 1) none)) hp7
      have s17 := (s15.trans s6).trans s7
      refine ⟨.ref l, rfl, 1, rfl, -1, rfl, l, _, rfl, SqL.of (s17 _ _ hlD), fun p8 hp8 => ?_⟩
      have s8 := same_upd (o := .lst (cutV (ns.map V.int) none (some (-1)))) hp8
      have lc2 : (cutV (ns.map V.int) none (some (-1))).length = high - 1 := by
        rw [cutV_but (by omega), List.length_take, lm]
        omega
      refine ⟨by show 1 ≤ sizeLine; decide, fun q9 hq9 => ?_⟩
      have s9 := same_upd (o := .lst [V.bl true]) hq9
      refine ⟨p8, q9, _, _, rfl, rfl, s9 _ _ upd_same, upd_same, by rw [lc2]; exact Nat.le_of_lt (smallT (by show high - 1 + 1 < 100000; omega)), fun pa0 hpa0 => ?_⟩
      have sa := same_upd (o := .lst (cutV (ns.map V.int) none (some (-1)) ++ [V.bl true])) hpa0
      have s1a := ((s17.trans s8).trans s9).trans sa
      refine ⟨by show 8 ≤ sizeLine; decide, fun ol hol => ?_⟩
      have so := same_upd (o := .lst [V.ref p1, V.ref p2, V.non, V.int 5, V.str "0", V.ref e4, V.ref p7, V.ref pa0]) hol
      have sZ := s1a.trans so
      have DZ := DD.same sZ
      refine ⟨d, g, c, ol, _, rfl, DZ, upd_same, ((DD.same s1a).newc hol).2.1, by show 0 < 8; decide, by show 8 ≤ 1000; decide, fun j x Ha hx Da dna => ?_⟩
      have s12 := s1.trans s2
      have nw1 := DD.newc hp1
      have nw2 := (DD.same s12).newc hp2
      have nw4 := (DD.same s123).newc he4
      have nw7 := (DD.same (s15.trans s6)).newc hp7
      have nwa := (DD.same ((s17.trans s8).trans s9)).newc hpa0
      have h1a : Ha p1 = some (.lst ((ns.map V.int).drop 1)) := by
        have z := dna _ _ (so _ _ (sa _ _ (s9 _ _ (s8 _ _ (s7 _ _ (s6 _ _ (s5 _ _ (s4 _ _ (s3 _ _ (s2 _ _ (upd_same (H := HD) (a := p1)))))))))))) nw1.1 nw1.2.1
        rw [cutV_1] at z
        exact z
      have h2a : Ha p2 = some (.lst (ns.map V.int ++ [V.int 0])) := dna _ _ (so _ _ (sa _ _ (s9 _ _ (s8 _ _ (s7 _ _ (s6 _ _ (s5 _ _ (s4 _ _ upd_same)))))))) nw2.1 nw2.2.1
      have h4a : Ha e4 = some (.dK []) := dna _ _ (so _ _ (sa _ _ (s9 _ _ (s8 _ _ (s7 _ _ (s6 _ _ (s5 _ _ upd_same))))))) nw4.1 nw4.2.1
      have h7a : Ha p7 = some (.lst ([V.non] ++ (ns.map V.int).drop 1)) := by
        have z := dna _ _ (so _ _ (sa _ _ (s9 _ _ (s8 _ _ (upd_same (a := p7)))))) nw7.1 nw7.2.1
        rw [cutV_1] at z
        exact z
      have haa : Ha pa0 = some (.lst ((ns.map V.int).take (high - 1) ++ [V.bl true])) := by
        have z := dna _ _ (so _ _ (upd_same (a := pa0))) nwa.1 nwa.2.1
        rw [cutV_but (by omega), lm] at z
        exact z
      have ktd : ∀ y ∈ (ns.map V.int).drop 1, Kt K Ha y := fun y hy => kt_ints y (List.mem_of_mem_drop hy)
      have ktt : ∀ y ∈ (ns.map V.int).take (high - 1), Kt K Ha y := fun y hy => kt_ints y (List.mem_of_mem_take hy)
      have ox : OddS K Ha high x := by
        match j, hx with
        | 0, hx =>
          cases hx
          exact .inr ⟨p1, _, rfl, SqL.of h1a, by rw [List.length_drop, lm]; omega, ktd, fun z => by
            have := z.1
            rw [List.length_drop, lm] at this
            omega⟩
        | 1, hx =>
          cases hx
          exact .inr ⟨p2, _, rfl, SqL.of h2a, by rw [List.length_append, lm]; show high + 1 ≤ 1000; omega, fun y hy => by
            rcases List.mem_append.mp hy with z | z
            · exact kt_ints y z
            · rw [List.mem_singleton.mp z]
              exact kt_int 0, fun z => by
            have := z.1
            rw [List.length_append, lm, List.length_singleton] at this
            omega⟩
        | 2, hx =>
          cases hx
          exact .inl ⟨"NoneType", .non, rfl, by decide, by decide⟩
        | 3, hx =>
          cases hx
          exact .inl ⟨"int", .int 5, rfl, by decide, by decide⟩
        | 4, hx =>
          cases hx
          exact .inl ⟨"str", .str _, rfl, by decide, by decide⟩
        | 5, hx =>
          cases hx
          exact .inl ⟨"dict", .dK h4a, rfl, by decide, by decide⟩
        | 6, hx =>
          cases hx
          exact .inr ⟨p7, _, rfl, SqL.of h7a, by rw [List.length_append, List.length_drop, lm]; show 1 + (high - 1) ≤ 1000; omega, fun y hy => by
            rcases List.mem_append.mp hy with z | z
            · rw [List.mem_singleton.mp z]
              exact ⟨"NoneType", .non, rfl⟩
            · exact ktd y z, fun z => by
            have := List.all_eq_true.mp z.2 .non (List.mem_append_left _ List.mem_cons_self)
            cases this⟩
        | 7, hx =>
          cases hx
          exact .inr ⟨pa0, _, rfl, SqL.of haa, by rw [List.length_append, List.length_take, lm]; show min (high - 1) high + 1 ≤ 1000; omega, fun y hy => by
            rcases List.mem_append.mp hy with z | z
            · exact ktt y z
            · rw [List.mem_singleton.mp z]
              exact kt_bl true, fun z => by
            have := List.all_eq_true.mp z.2 (.bl true) (List.mem_append_right _ List.mem_cons_self)
            cases this⟩
        | j + 8, hx => exact nomatch hx
      exact ⟨x, rfl, ox, dna _ _ (sZ _ _ hlD) nld nlg, dna _ _ (sZ _ _ hkD) nkd nkg, dna.tup DZ (sZ _ _ hpaD), Da, Dn.tabs dna DZ (TD.ext sZ)⟩
    rintro _ HE ⟨x, rfl, ox, hlE, hkE, hpaE, DE, TE'⟩
    clear hlD hkD hpaD DD TD
    refine ⟨TE', fun Ha ext tabs => fun R => ?_⟩
    have hlF := ext _ _ hlE (fun _ z => nomatch z)
    have hkF := ext _ _ hkE (fun _ z => nomatch z)
    have hpaF := ext_tup ext hpaE
    refine ⟨.ref pa, rfl, x, rfl, pa, x, high, wide, rs, rfl, hpaF, pr, ?_⟩
    rcases ox.ext ext with ⟨Ty, ht, ok, n1, n2⟩ | ⟨q, xs, rfl, hq, hl', hk', bad⟩
    · exact .inl ⟨Ty, ht, ok, n1, n2, fun Hb sb => ⟨rfl, rfl, fun Hc sc => ⟨rfl, _, rfl, iteE e1place ⟨.ref l, rfl, .ref k, rfl, .list (ns.map PyData.int), .list (ns.map PyData.int), .lst (SqL.of (sc _ _ (sb _ _ hlF))) (dpInts ns), .lst (SqL.of (sc _ _ (sb _ _ hkF))) (dpInts ns), PySem.W.ke_shaped_ints ns, PySem.W.ke_shaped_ints ns, _, rfl, iteE (eqvI ns) ⟨.ref pa, rfl, .ref pa, true, rfl, askPic pr (sc _ _ (sb _ _ hpaF)), fun Hd sd => ⟨_, rfl, iteF ⟨_, _, _, _, _, _, _, _, _, rfl, (DE.ext ext).same ((sb.trans sc).trans sd), tabs.ext ((sb.trans sc).trans sd)⟩⟩⟩⟩⟩⟩⟩
    · exact .inr (.inl ⟨true, q, xs, rfl, hq, hl', hk', bad, fun Hb sb => ⟨rfl, rfl, fun Hc sc => ⟨rfl, _, rfl, iteE e1place ⟨.ref l, rfl, .ref k, rfl, .list (ns.map PyData.int), .list (ns.map PyData.int), .lst (SqL.of (sc _ _ (sb _ _ hlF))) (dpInts ns), .lst (SqL.of (sc _ _ (sb _ _ hkF))) (dpInts ns), PySem.W.ke_shaped_ints ns, PySem.W.ke_shaped_ints ns, _, rfl, iteE (eqvI ns) ⟨.ref pa, rfl, .ref pa, true, rfl, askPic pr (sc _ _ (sb _ _ hpaF)), fun Hd sd => ⟨_, rfl, iteF ⟨_, _, _, _, _, _, _, _, _, rfl, (DE.ext ext).same ((sb.trans sc).trans sd), tabs.ext ((sb.trans sc).trans sd)⟩⟩⟩⟩⟩⟩⟩)
  · rintro σ H2 ⟨y2, y3, y4, y5, y6, y7, y8, y9, y10, rfl, D2, T2⟩
    rfl

end
end Dt
namespace Dt
open PySem PySem.Spec PyProof.Rows L2 L2X LamX
abbrev BndT (nm : Str) (st : Stmt) (ps : List Str) : Prop := ∀ (kV doc pm : Value) (an : Option Addr) (cdv ct : Value) (us : List Value), us.length = ps.length → bindArgs (PySem.W.fnOf nm nm (defArgs st) (defBody st) (defScope st) .none kV doc pm an cdv ct) ⟨us, []⟩ = pure (ps.zip us)
theorem df_mk {K : PySem.W.Frag} {h : Heap} {mg : Str → Option Value} {nm : Str} {st : Stmt} {ps : List Str} {f : Addr} {oc : Value} {od an : Option Addr} {osl : Array (Option Value)} {kV doc pm cdv ct : Value} (X : K.In h) (G : h.Ns mainGlobals mg)
    (a : PySem.W.nsIn K mainGlobals nm = some (some (.ref f))) (l : K.lookup f = some ⟨oc, od, .func (PySem.W.fnOf nm nm (defArgs st) (defBody st) (defScope st) .none kV doc pm an cdv ct), osl⟩) (c : PySem.W.codeIn K cdv nm = true) (k : PySem.W.keepIn K (.ref f) = true) (hb : BndT nm st ps) : Df K mg nm st ps :=
  have F := fun_mk (st := st) l c k
  ⟨f, _, F, PySem.W.mg_of X G a, F.binds (ps := ps) hb⟩
theorem bnd0 : BndT "_law_next" sNext ["draw", "below"] := fun _ _ _ _ _ _ us hl => match us, hl with | [_, _], _ => rfl
theorem bnd1 : BndT "_law_begun" sBegun ["script"] := fun _ _ _ _ _ _ us hl => match us, hl with | [_], _ => rfl
theorem bnd2 : BndT "_law_picture" sPic ["draw", "high", "wide"] := fun _ _ _ _ _ _ us hl => match us, hl with | [_, _, _], _ => rfl
theorem bnd3 : BndT "_law_sized" sSized ["draw"] := fun _ _ _ _ _ _ us hl => match us, hl with | [_], _ => rfl
theorem bnd4 : BndT "_law_pick" sPick ["draw", "some"] := fun _ _ _ _ _ _ us hl => match us, hl with | [_, _], _ => rfl
theorem bnd5 : BndT "is_text" sIsText ["thing"] := fun _ _ _ _ _ _ us hl => match us, hl with | [_], _ => rfl
theorem bnd6 : BndT "_is_row" sIsRow ["thing"] := fun _ _ _ _ _ _ us hl => match us, hl with | [_], _ => rfl
theorem bnd7 : BndT "is_picture" sIsPic ["thing"] := fun _ _ _ _ _ _ us hl => match us, hl with | [_], _ => rfl
theorem bnd8 : BndT "want_picture" sWant ["thing"] := fun _ _ _ _ _ _ us hl => match us, hl with | [_], _ => rfl
theorem bnd9 : BndT "size" sSize ["picture"] := fun _ _ _ _ _ _ us hl => match us, hl with | [_], _ => rfl
theorem bnd10 : BndT "is_number" sIsNum ["thing"] := fun _ _ _ _ _ _ us hl => match us, hl with | [_], _ => rfl
theorem bnd11 : BndT "is_between" sBetw ["thing", "least", "most"] := fun _ _ _ _ _ _ us hl => match us, hl with | [_, _, _], _ => rfl
theorem bnd12 : BndT "is_list" sIsList ["thing"] := fun _ _ _ _ _ _ us hl => match us, hl with | [_], _ => rfl
theorem bnd13 : BndT "dots" sDots ["picture"] := fun _ _ _ _ _ _ us hl => match us, hl with | [_], _ => rfl
theorem bnd14 : BndT "_is_stretch" sStr ["start", "many", "whole"] := fun _ _ _ _ _ _ us hl => match us, hl with | [_, _, _], _ => rfl
theorem bnd15 : BndT "cut_out" sCut ["picture", "top", "left", "high", "wide"] := fun _ _ _ _ _ _ us hl => match us, hl with | [_, _, _, _, _], _ => rfl
theorem bnd16 : BndT "columns_of" sCO ["rows"] := fun _ _ _ _ _ _ us hl => match us, hl with | [_], _ => rfl
theorem bnd17 : BndT "_turned_once" sTO ["rows"] := fun _ _ _ _ _ _ us hl => match us, hl with | [_], _ => rfl
theorem bnd18 : BndT "turned" sTrn ["picture", "times"] := fun _ _ _ _ _ _ us hl => match us, hl with | [_, _], _ => rfl
theorem bnd19 : BndT "_shifted_row" sSR ["row", "step"] := fun _ _ _ _ _ _ us hl => match us, hl with | [_, _], _ => rfl
theorem bnd20 : BndT "shifted" sShf ["picture", "steps"] := fun _ _ _ _ _ _ us hl => match us, hl with | [_, _], _ => rfl
theorem bnd21 : BndT "_law_dots" sLD ["picture"] := fun _ _ _ _ _ _ us hl => match us, hl with | [_], _ => rfl
theorem bnd22 : BndT "_law_quarter" sLQ ["picture"] := fun _ _ _ _ _ _ us hl => match us, hl with | [_], _ => rfl
theorem bnd23 : BndT "_law_row_shifted" sLR ["row", "step"] := fun _ _ _ _ _ _ us hl => match us, hl with | [_, _], _ => rfl
theorem bnd24 : BndT "_law_part_right" sPR ["draw", "picture"] := fun _ _ _ _ _ _ us hl => match us, hl with | [_, _], _ => rfl
theorem bnd25 : BndT "_law_refused" sRef ["work"] := fun _ _ _ _ _ _ us hl => match us, hl with | [_], _ => rfl
theorem bnd26 : BndT "_law_word" sWord ["e"] := fun _ _ _ _ _ _ us hl => match us, hl with | [_], _ => rfl
theorem bnd27 : BndT "law" sLaw ["script"] := fun _ _ _ _ _ _ us hl => match us, hl with | [_], _ => rfl
/-- all defs that the law reaches -/
structure AllD (K : PySem.W.Frag) (mg : Str → Option Value) : Prop where
  d0 : Df K mg "_law_next" sNext ["draw", "below"]
  d1 : Df K mg "_law_begun" sBegun ["script"]
  d2 : Df K mg "_law_picture" sPic ["draw", "high", "wide"]
  d3 : Df K mg "_law_sized" sSized ["draw"]
  d4 : Df K mg "_law_pick" sPick ["draw", "some"]
  d5 : Df K mg "is_text" sIsText ["thing"]
  d6 : Df K mg "_is_row" sIsRow ["thing"]
  d7 : Df K mg "is_picture" sIsPic ["thing"]
  d8 : Df K mg "want_picture" sWant ["thing"]
  d9 : Df K mg "size" sSize ["picture"]
  d10 : Df K mg "is_number" sIsNum ["thing"]
  d11 : Df K mg "is_between" sBetw ["thing", "least", "most"]
  d12 : Df K mg "is_list" sIsList ["thing"]
  d13 : Df K mg "dots" sDots ["picture"]
  d14 : Df K mg "_is_stretch" sStr ["start", "many", "whole"]
  d15 : Df K mg "cut_out" sCut ["picture", "top", "left", "high", "wide"]
  d16 : Df K mg "columns_of" sCO ["rows"]
  d17 : Df K mg "_turned_once" sTO ["rows"]
  d18 : Df K mg "turned" sTrn ["picture", "times"]
  d19 : Df K mg "_shifted_row" sSR ["row", "step"]
  d20 : Df K mg "shifted" sShf ["picture", "steps"]
  d21 : Df K mg "_law_dots" sLD ["picture"]
  d22 : Df K mg "_law_quarter" sLQ ["picture"]
  d23 : Df K mg "_law_row_shifted" sLR ["row", "step"]
  d24 : Df K mg "_law_part_right" sPR ["draw", "picture"]
  d25 : Df K mg "_law_refused" sRef ["work"]
  d26 : Df K mg "_law_word" sWord ["e"]
  d27 : Df K mg "law" sLaw ["script"]
/-- .. and all else -/
structure AllN (K : PySem.W.Frag) (w : World) (mg : Str → Option Value) (C CP : Addr) : Prop where
  z0 : mg "len" = none
  z1 : mg "range" = none
  z2 : mg "tuple" = none
  z3 : mg "list" = none
  z4 : mg "int" = none
  z5 : mg "type" = none
  z6 : mg "str" = none
  z7 : mg "all" = none
  z8 : mg "isinstance" = none
  z9 : mg "ValueError" = none
  z10 : mg "zip" = none
  z11 : mg "enumerate" = none
  mr : ∃ t, mg "MOST_ROWS" = some (.int 60 t)
  mc : ∃ t, mg "MOST_COLUMNS" = some (.int 120 t)
  n : Tn K mg C
  np : ExN K mg "NoPlace" CP
  w : Tw K mg CP "place"
  CD : ∃ a, mg "DotError" = some (.ref a) ∧ PySem.W.exmOne K (.ref CP) (.ref a) = some true
section
variable {P : Program} {w : World} {K : PySem.W.Frag} {mg : Str → Option Value} {base : Heap} {C CP : Addr}
theorem facts {c2 P2 f2 : Addr} {fd2 : FuncData} {TL : List (Addr × Str)} (D : AllD K mg) (N : AllN K w mg C CP) (F2 : FunC K "_law_part_right" "_law_part_right" sPR f2 fd2 c2) (m2 : mg "_law_part_right" = some (.ref f2)) (k2 : PySem.W.keepIn K (.ref f2) = true) (b2 : Binds K fd2 ["draw", "picture"] [])
    (TB2 : TabB base mg c2 P2) (hm2 : (P2, lamN "_law_part_right" sPR) ∈ TL) (hu2 : ∀ p ∈ TL, p.1 = P2 → p.2 = lamN "_law_part_right" sPR) : LawFs P w K mg base C CP TL := by
  have X : Tx mg := ⟨N.z0, N.z1, N.z2, N.z3, N.z4⟩
  have T : Tp mg := ⟨N.z5, N.z6, N.z7, N.mr, N.mc⟩
  have nxt : ∀ k, Pm P w K mg base CX0 (k + 1) "_law_next" ["draw", "below"] spNext := fun k => .of D.d0 fun f fd F => ok_next F X.len
  have pck : ∀ k, Pm P w K mg base CX0 (k + 2) "_law_pick" ["draw", "some"] (spPick K) := fun k => .of D.d4 fun f fd F => by
    obtain ⟨_, _, G, m, kp, b⟩ := (nxt k).ex
    exact ok_pick F X G m kp b
  have pic : ∀ k, Pm P w K mg base CX0 (k + 2) "_law_picture" ["draw", "high", "wide"] spPic := fun k => .of D.d2 fun f fd F => by
    obtain ⟨_, _, G, m, kp, b⟩ := (nxt k).ex
    exact ok_pic F X G m kp b
  have isT : ∀ k, Pm P w K mg base CX0 (k + 1) "is_text" ["thing"] (spIsText K) := fun k => .of D.d5 fun f fd F => ok_isText F T
  have isR : ∀ k, Pm P w K mg base CX0 (k + 2) "_is_row" ["thing"] (spIsRow K) := fun k => .of D.d6 fun f fd F => by
    obtain ⟨_, _, G, m, kp, b⟩ := (isT k).ex
    exact ok_isRow F T X G m kp b
  have isP : ∀ k, Pm P w K mg base CX0 (k + 3) "is_picture" ["thing"] (spIsPic K) := fun k => .of D.d7 fun f fd F => by
    obtain ⟨_, _, G, m, kp, b⟩ := (isR k).ex
    exact ok_isPic (k := k + 1) F T X G m kp b
  have wnt : ∀ k, GW P w K mg base C (k + 4) := fun k => by
    obtain ⟨fW, fdW, FW, mW, bW⟩ := (D.d8).ex
    obtain ⟨_, _, G, m, kp, b⟩ := (isP k).ex
    exact ⟨fW, fdW, ok_want (k := k + 2) FW N.n G m kp b, mW, FW.kp, bW⟩
  have siz : ∀ k, GS P w K mg base C (k + 5) := fun k => by
    obtain ⟨f, fd, F, m, b⟩ := (D.d9).ex
    exact ⟨f, fd, ok_size (k := k + 3) F X (wnt k), m, F.kp, b⟩
  have isN : ∀ k, Pm P w K mg base CX0 (k + 1) "is_number" ["thing"] (spIsNum K) := fun k => .of D.d10 fun f fd F => ok_isNum F T X
  have btw : ∀ k, Pm P w K mg base CX0 (k + 2) "is_between" ["thing", "least", "most"] (spBetw K) := fun k => .of D.d11 fun f fd F => by
    obtain ⟨_, _, G, m, kp, b⟩ := (isN k).ex
    exact ok_betw F G m kp b
  have isL : ∀ k, Pm P w K mg base CX0 (k + 1) "is_list" ["thing"] (spIsList K) := fun k => .of D.d12 fun f fd F => ok_isList F T X
  have dts : ∀ k, Pm P w K mg base (L2.CX P w) (k + 5) "dots" ["picture"] (spDots K) := fun k => .of D.d13 fun f fd F => ok_dots (k := k + 3) F N.z11 (wnt k)
  have str : ∀ k, Pm P w K mg base CX0 (k + 3) "_is_stretch" ["start", "many", "whole"] (spStr K) := fun k => .of D.d14 fun f fd F => ok_str (k := k) F (isN k) (btw k)
  have cut : ∀ k, Pm P w K mg base (L2.CX P w) (k + 6) "cut_out" ["picture", "top", "left", "high", "wide"] (spCut K CP) := fun k => .of D.d15 fun f fd F => ok_cut (k := k + 2) F X N.np (siz k) (str (k + 2))
  have cof : ∀ k, Pm P w K mg base CX0 (k + 1) "columns_of" ["rows"] spCO := fun k => .of D.d16 fun f fd F => ok_CO F X N.z10
  have ton : ∀ k, Pm P w K mg base CX0 (k + 2) "_turned_once" ["rows"] spTO := fun k => .of D.d17 fun f fd F => ok_TO F X (cof k)
  have trn : ∀ k, Pm P w K mg base (L2.CX P w) (k + 6) "turned" ["picture", "times"] (spTrn CP) := fun k => .of D.d18 fun f fd F => ok_trn (k := k + 4) F X T N.np (siz k) (isN (k + 4)) (ton (k + 3))
  have shr : ∀ k, Pm P w K mg base (L2.CX P w) (k + 1) "_shifted_row" ["row", "step"] (spSR CP) := fun k => .of D.d19 fun f fd F => ok_SR F X N.np
  have shf : ∀ k, Pm P w K mg base (L2.CX P w) (k + 6) "shifted" ["picture", "steps"] (spShf K CP) := fun k => .of D.d20 fun f fd F => ok_shf (k := k + 4) F X T N.z10 N.np (siz k) (isL (k + 4)) (isN (k + 4)) (shr (k + 4))
  have wrd : ∀ k, Pm P w K mg base CX0 (k + 1) "_law_word" ["e"] (spWord CP "place") := fun k => .of D.d26 fun f fd F => ok_word F N.w
  exact
    { tx := X
      zp := N.z10
      xB := .of D.d1 fun f fd F => ok_begun (k := 8) F X
      xZ := .of D.d3 fun f fd F => by
        obtain ⟨_, _, G, m, kp, b⟩ := (nxt 6).ex
        obtain ⟨_, _, G2, m2, kp2, b2⟩ := (pic 6).ex
        exact ok_sized (k := 6) F X G m kp b G2 m2 kp2 b2
      xN := nxt 8
      xK := pck 7
      xD := dts 2
      xL := .of D.d21 fun f fd F => ok_LD (k := 8) F X
      xP := ⟨f2, fd2, ok_PR F2 TB2 hm2 hu2 X (nxt 7) (pck 6) (cut 0) ⟨wrd 6, N.CD, D.d25⟩, m2, k2, b2⟩
      xQ := .of D.d22 fun f fd F => ok_LQ (k := 8) F X
      xT := trn 1
      xS := shf 1
      xM := .of D.d23 fun f fd F => ok_LR (k := 8) F X
      xI := isP 6
      RD := ⟨wrd 7, N.CD, D.d25⟩ }
end
theorem gli_mk {K : PySem.W.Frag} {h : Heap} {mg : Str → Option Value} {nm : Str} {i : Int} {t : Tok} (X : K.In h) (G : h.Ns mainGlobals mg) (a : PySem.W.nsIn K mainGlobals nm = some (some (.int i t))) : ∃ t, mg nm = some (.int i t) := ⟨t, PySem.W.mg_of X G a⟩
theorem glk_mk {K : PySem.W.Frag} {h : Heap} {mg : Str → Option Value} {nm : Str} {C D : Addr} {b : Bool} (X : K.In h) (G : h.Ns mainGlobals mg) (a : PySem.W.nsIn K mainGlobals nm = some (some (.ref C))) (q : PySem.W.kitOne K (.ref D) (.ref C) = some b) : ∃ C, mg nm = some (.ref C) ∧ PySem.W.kitOne K (.ref D) (.ref C) = some b := ⟨C, PySem.W.mg_of X G a, q⟩
theorem glx_mk {K : PySem.W.Frag} {h : Heap} {mg : Str → Option Value} {nm : Str} {C D : Addr} (X : K.In h) (G : h.Ns mainGlobals mg) (a : PySem.W.nsIn K mainGlobals nm = some (some (.ref C))) (q : PySem.W.exmOne K (.ref D) (.ref C) = some true) : ∃ C, mg nm = some (.ref C) ∧ PySem.W.exmOne K (.ref D) (.ref C) = some true := ⟨C, PySem.W.mg_of X G a, q⟩
theorem kitc_ref {K : PySem.W.Frag} {C D : Addr} {b : Bool} (i : PySem.W.isClsIn K C = true) (y : PySem.W.typeIn K (.ref C) = some (.type "type")) (s : PySem.W.subIn K (.ref D) (.ref C) = some b) : PySem.W.kitCls K (.ref D) (.ref C) = some b := by
  have e2 : ((PySem.W.clsIn K C).isSome && PySem.W.typeIn K (.ref C) == some (.type "type")) = true := by
    have i' : (PySem.W.clsIn K C).isSome = true := i
    rw [i', y] <;> rfl
  show (if ((PySem.W.clsIn K C).isSome && PySem.W.typeIn K (.ref C) == some (.type "type")) = true then PySem.W.subIn K (.ref D) (.ref C) else none) = some b
  rw [if_pos e2]
  exact s
theorem kit_self {K : PySem.W.Frag} {C : Addr} : PySem.W.kitOne K (.ref C) (.ref C) = some true := if_pos (beq_self_eq_true _)
theorem kit_ne {K : PySem.W.Frag} {C D : Addr} {b : Bool} (n : D ≠ C) (h : PySem.W.kitCls K (.ref D) (.ref C) = some b) : PySem.W.kitOne K (.ref D) (.ref C) = some b := by
  unfold PySem.W.kitOne
  rw [if_neg (fun z => n (Value.ref.inj (beq_iff_eq.mp z)))]
  exact h
theorem glo_mk {K : PySem.W.Frag} {h : Heap} {mg : Str → Option Value} {nm : Str} {C D : Addr} {b : Bool} (X : K.In h) (G : h.Ns mainGlobals mg) (a : PySem.W.nsIn K mainGlobals nm = some (some (.ref C))) (i : PySem.W.isClsIn K C = true) (y : PySem.W.typeIn K (.ref C) = some (.type "type")) (s : PySem.W.subIn K (.ref D) (.ref C) = some b) (n : D ≠ C) : ∃ C, mg nm = some (.ref C) ∧ PySem.W.kitOne K (.ref D) (.ref C) = some b :=
  ⟨C, PySem.W.mg_of X G a, kit_ne n (kitc_ref i y s)⟩
theorem gls_mk {K : PySem.W.Frag} {h : Heap} {mg : Str → Option Value} {nm : Str} {C : Addr} (X : K.In h) (G : h.Ns mainGlobals mg) (a : PySem.W.nsIn K mainGlobals nm = some (some (.ref C))) : ∃ D, mg nm = some (.ref D) ∧ PySem.W.kitOne K (.ref C) (.ref D) = some true := ⟨C, PySem.W.mg_of X G a, kit_self⟩
theorem kit_ty {K : PySem.W.Frag} {D : Addr} {T : String} {b : Bool} (m : PySem.W.kitMeta T = true) (s : PySem.W.subIn K (.ref D) (.type T) = some b) : PySem.W.kitOne K (.ref D) (.type T) = some b := by
  unfold PySem.W.kitOne
  have n : ¬ ((Value.ref D == Value.type T) = true) := fun z => by
    have e := beq_iff_eq.mp z
    cases e
  rw [if_neg n]
  show (if PySem.W.kitMeta T = true then PySem.W.subIn K (.ref D) (.type T) else none) = some b
  rw [if_pos m]
  exact s
theorem glx_of {K : PySem.W.Frag} {h : Heap} {mg : Str → Option Value} {nm : Str} {C D : Addr} (X : K.In h) (G : h.Ns mainGlobals mg) (a : PySem.W.nsIn K mainGlobals nm = some (some (.ref C))) (b : PySem.W.subIn K (.ref C) (.type "BaseException") = some true) (hd : PySem.W.hasDictIn K C = true) (y : PySem.W.typeIn K (.ref C) = some (.type "type")) (s : PySem.W.subIn K (.ref D) (.ref C) = some true) :
    ∃ C, mg nm = some (.ref C) ∧ PySem.W.exmOne K (.ref D) (.ref C) = some true := ⟨C, PySem.W.mg_of X G a, PySem.W.exm_ref b hd y s⟩
theorem tabm {K : PySem.W.Frag} {f cc PP : Addr} {oc oc2 : Value} {od od2 : Option Addr} {fd : FuncData} {sl sl2 : Array (Option Value)} {vs : Array Value} (a : PySem.W.nsIn K mainGlobals "law" = some (some (.ref f))) (l : K.lookup f = some ⟨oc, od, .func fd, sl⟩) (c : fd.code = .ref cc) (m : K.lookup cc = some ⟨oc2, od2, .fields vs, sl2⟩) (v : (vs[11]? : Option Value) = some (.ref PP)) :
    PySem.W.tabIn K "law" = some (cc, PP) := by
  unfold PySem.W.tabIn
  rw [a]
  simp only
  rw [l]
  simp only
  rw [c]
  simp only
  rw [m]
  simp only
  rw [v]
theorem exN_mk {K : PySem.W.Frag} {h : Heap} {mg : Str → Option Value} {nm : Str} {C : Addr} (X : K.In h) (G : h.Ns mainGlobals mg) (a : PySem.W.nsIn K mainGlobals nm = some (some (.ref C)))
    (x : PySem.W.excIn K C [.type "ValueError", .type "Exception", .type "BaseException", .type "object"] "ValueError.__new__" = true) (k : PySem.W.keepIn K (.ref C) = true) (b : PySem.W.subIn K (.ref C) (.type "BaseException") = some true) (t : PySem.W.typeIn K (.ref C) = some (.type "type")) : ExN K mg nm C := ⟨PySem.W.mg_of X G a, x, k, b, t⟩
theorem tabm2 {K : PySem.W.Frag} {nm : Str} {f cc PP : Addr} {oc oc2 : Value} {od od2 : Option Addr} {fd : FuncData} {sl sl2 : Array (Option Value)} {vs : Array Value} (a : PySem.W.nsIn K mainGlobals nm = some (some (.ref f))) (l : K.lookup f = some ⟨oc, od, .func fd, sl⟩) (c : fd.code = .ref cc) (m : K.lookup cc = some ⟨oc2, od2, .fields vs, sl2⟩) (v : (vs[11]? : Option Value) = some (.ref PP)) :
    PySem.W.tabIn K nm = some (cc, PP) := by
  unfold PySem.W.tabIn
  rw [a]
  simp only
  rw [l]
  simp only
  rw [c]
  simp only
  rw [m]
  simp only
  rw [v]
theorem end_mk2 {w : World} {K : PySem.W.Frag} {mg : Str → Option Value} {C CP cc PP c2 P2 : Addr} {P0 : Prop} (p0 : P0) (p1 : P0 → PySem.W.nsIn K mainGlobals "NoPicture" = some (some (.ref C))) (p2 : P0 → PySem.W.nsIn K mainGlobals "NoPlace" = some (some (.ref CP))) (D : AllD K mg) (N : AllN K w mg C CP) (t : PySem.W.tabIn K "law" = some (cc, PP)) (t2 : PySem.W.tabIn K "_law_part_right" = some (c2, P2)) (np : K.lookup PP = none) (np2 : K.lookup P2 = none) (ne : PP ≠ P2) :
    ∃ (C CP cc PP c2 P2 : Addr), AllD K mg ∧ AllN K w mg C CP ∧ PySem.W.tabIn K "law" = some (cc, PP) ∧ PySem.W.tabIn K "_law_part_right" = some (c2, P2) ∧ K.lookup PP = none ∧ K.lookup P2 = none ∧ PP ≠ P2 := ⟨C, CP, cc, PP, c2, P2, D, N, t, t2, np, np2, ne⟩
theorem walk_of2 {l : PySem.W.OpenLaw} {q : Program} {loose : List Str} {XP : (Str → Option Value) → Heap → Prop} {YP : World → Heap → Prop} {d e e2 : DefRec} {K : Params → PySem.W.Frag}
    (hn : l.most = some 63) (hdf : d.params.defaults = []) (hrec : (PyProof.Rows.recsOf q).find? (fun e => e.name == ("law" : Str)) = some e) (hrec2 : (PyProof.Rows.recsOf q).find? (fun e => e.name == ("_law_part_right" : Str)) = some e2) (hY : ∀ (w : World) (h : Heap), YP w h → (K w.params).In h) (hname : d.name = "law")
    (F : ∀ (w : World) (mg : Str → Option Value) (h : Heap), (K w.params).In h → h.Ns mainGlobals mg → ∃ (C CP cc PP c2 P2 : Addr), AllD (K w.params) mg ∧ AllN (K w.params) w mg C CP ∧ PySem.W.tabIn (K w.params) "law" = some (cc, PP) ∧ PySem.W.tabIn (K w.params) "_law_part_right" = some (c2, P2) ∧ (K w.params).lookup PP = none ∧ (K w.params).lookup P2 = none ∧ PP ≠ P2) :
    PySem.W.WalkO q loose XP YP l.row.toRowW d [] (fun f vs => PySem.call f vs) := by
  refine Att.attach_callB hn hdf fun w s₀ s₁ mg mb fa o pm cd doc a vs ns G Y ho hd hcd hmg hobj hints hlen hbits hg => ?_
  have KX := hY w _ Y
  obtain ⟨C, CP, cc, PP, c2, P2, D, N, ht, ht2, nP, nP2, ne⟩ := F w mg _ KX G.T.g
  obtain ⟨hC, hP⟩ := PySem.W.tab_of G.T KX hrec ht
  obtain ⟨hC2, hP2⟩ := PySem.W.tab_of G.T KX hrec2 ht2
  rw [hname] at hmg
  obtain ⟨fL, fdL, FL, mL, bL⟩ := D.d27.ex
  rw [hmg] at mL
  cases mL
  obtain ⟨oc, od, kV, dc, pm', an, cdv, ct, osl, rfl, lk, hc⟩ := FL.ex
  have ec' : cdv = .ref cc := PySem.W.law_code KX G.T.g ht hmg (KX _ _ lk) rfl
  subst ec'
  obtain ⟨f2, fd2, F2, m2, b2⟩ := D.d24.ex
  have kp2 := F2.kp
  obtain ⟨oc2, od2, kV2, dc2, pm2, an2, cdv2, ct2, osl2, rfl, lk2, hc2⟩ := F2.ex
  have ec2 : cdv2 = .ref c2 := PySem.W.law_code KX G.T.g ht2 m2 (KX _ _ lk2) rfl
  subst ec2
  have two : ∀ {Q : Addr × Addr → Prop}, Q (cc, PP) → Q (c2, P2) → ∀ p ∈ [(cc, PP), (c2, P2)], Q p := fun q1 q2 p hp => by
    rcases List.mem_cons.mp hp with z | z
    · rw [z]
      exact q1
    · rw [List.mem_singleton.mp z]
      exact q2
  refine law_callG (cs := [(cc, PP), (c2, P2)]) KX G.T.g G.T.b G.T.builtins G.T.nolimit hg (two (Q := fun p => _ = some tabO) hP hP2) (two (Q := fun p => (K w.params).lookup p.2 = none) nP nP2) (two (Q := fun p => PySem.W.CodeHd _ p.1 p.2) hC hC2) G.T.bmain hobj hints (Nat.le_trans hlen (by decide)) ?_
  intro base H hKb hNs hTB hHT hS e0
  have m1 : (cc, PP) ∈ [(cc, PP), (c2, P2)] := List.mem_cons_self
  have m2' : (c2, P2) ∈ [(cc, PP), (c2, P2)] := List.mem_cons_of_mem _ List.mem_cons_self
  have hT : Tabs [(PP, lamN "law" sLaw), (P2, lamN "_law_part_right" sPR)] H := fun p hp => by
    rcases List.mem_cons.mp hp with z | z
    · rw [z]
      exact TabS.nil (hHT _ m1)
    · rw [List.mem_singleton.mp z]
      exact TabS.nil (hHT _ m2')
  have u1 : ∀ p ∈ [(PP, lamN "law" sLaw), (P2, lamN "_law_part_right" sPR)], p.1 = PP → p.2 = lamN "law" sLaw := fun p hp e => by
    rcases List.mem_cons.mp hp with z | z
    · rw [z]
    · rw [List.mem_singleton.mp z] at e
      exact absurd e.symm ne
  have u2 : ∀ p ∈ [(PP, lamN "law" sLaw), (P2, lamN "_law_part_right" sPR)], p.1 = P2 → p.2 = lamN "_law_part_right" sPR := fun p hp e => by
    rcases List.mem_cons.mp hp with z | z
    · rw [z] at e
      exact absurd e ne
    · rw [List.mem_singleton.mp z]
  exact law_run lk hc (fun _ _ => .of_eq rfl) (facts D N ⟨⟨oc2, od2, kV2, dc2, pm2, an2, ct2, osl2, rfl, lk2, hc2⟩⟩ m2 kp2 b2 (hTB _ m2') (List.mem_cons_of_mem _ List.mem_cons_self) u2) (hTB _ m1) List.mem_cons_self u1 ⟨rfl, by decide, by decide⟩ e0 hT hS hlen
end Dt
open PySem PySem.W PyProof.Rows
set_option maxRecDepth 100000 in
set_option maxHeartbeats 0 in
theorem PySem.Challenge.cw_dotread_k02_parts_and_turns_holds : PySem.Challenge.rw_dotread_k02_parts_and_turns.Holds := by
  w_on; o_law; k_head; (case hw => w_witness2)
  k_fill
  refine Dt.walk_of2 (l := PySem.Challenge.rw_dotread_k02_parts_and_turns) rfl rfl rfl rfl (fun w h Y => PySem.W.km_in_of Y) (by kernel_rfl) ?F
  case F =>
    intro w mg h KX G
    refine' Dt.end_mk2 trivial (fun _ => ?nC) (fun _ => ?nP) ⟨Dt.df_mk KX G ?a0 ?l0 ?c0 ?k0 Dt.bnd0, Dt.df_mk KX G ?a1 ?l1 ?c1 ?k1 Dt.bnd1, Dt.df_mk KX G ?a2 ?l2 ?c2 ?k2 Dt.bnd2, Dt.df_mk KX G ?a3 ?l3 ?c3 ?k3 Dt.bnd3, Dt.df_mk KX G ?a4 ?l4 ?c4 ?k4 Dt.bnd4, Dt.df_mk KX G ?a5 ?l5 ?c5 ?k5 Dt.bnd5, Dt.df_mk KX G ?a6 ?l6 ?c6 ?k6 Dt.bnd6, Dt.df_mk KX G ?a7 ?l7 ?c7 ?k7 Dt.bnd7, Dt.df_mk KX G ?a8 ?l8 ?c8 ?k8 Dt.bnd8, Dt.df_mk KX G ?a9 ?l9 ?c9 ?k9 Dt.bnd9, Dt.df_mk KX G ?a10 ?l10 ?c10 ?k10 Dt.bnd10, Dt.df_mk KX G ?a11 ?l11 ?c11 ?k11 Dt.bnd11, Dt.df_mk KX G ?a12 ?l12 ?c12 ?k12 Dt.bnd12, Dt.df_mk KX G ?a13 ?l13 ?c13 ?k13 Dt.bnd13, Dt.df_mk KX G ?a14 ?l14 ?c14 ?k14 Dt.bnd14, Dt.df_mk KX G ?a15 ?l15 ?c15 ?k15 Dt.bnd15, Dt.df_mk KX G ?a16 ?l16 ?c16 ?k16 Dt.bnd16, Dt.df_mk KX G ?a17 ?l17 ?c17 ?k17 Dt.bnd17, Dt.df_mk KX G ?a18 ?l18 ?c18 ?k18 Dt.bnd18, Dt.df_mk KX G ?a19 ?l19 ?c19 ?k19 Dt.bnd19, Dt.df_mk KX G ?a20 ?l20 ?c20 ?k20 Dt.bnd20, Dt.df_mk KX G ?a21 ?l21 ?c21 ?k21 Dt.bnd21, Dt.df_mk KX G ?a22 ?l22 ?c22 ?k22 Dt.bnd22, Dt.df_mk KX G ?a23 ?l23 ?c23 ?k23 Dt.bnd23, Dt.df_mk KX G ?a24 ?l24 ?c24 ?k24 Dt.bnd24, Dt.df_mk KX G ?a25 ?l25 ?c25 ?k25 Dt.bnd25, Dt.df_mk KX G ?a26 ?l26 ?c26 ?k26 Dt.bnd26, Dt.df_mk KX G ?a27 ?l27 ?c27 ?k27 Dt.bnd27⟩ ⟨mg_none_of KX G ?z0, mg_none_of KX G ?z1, mg_none_of KX G ?z2, mg_none_of KX G ?z3, mg_none_of KX G ?z4, mg_none_of KX G ?z5, mg_none_of KX G ?z6, mg_none_of KX G ?z7, mg_none_of KX G ?z8, mg_none_of KX G ?z9, mg_none_of KX G ?z10, mg_none_of KX G ?z11, Dt.gli_mk KX G ?mr, Dt.gli_mk KX G ?mc, ⟨mg_of KX G ?nC2, ?nx, ?nk, ?nb, ?nt⟩, Dt.exN_mk KX G ?nP2 ?px ?pk ?pb ?pt, ⟨mg_none_of KX G ?z8b, mg_none_of KX G ?z0b, mg_none_of KX G ?z9b, Dt.kit_ty (by decide +kernel) ?vk, ⟨?e1, ?e2, ?e3, ?e4, ?e5, ?e6, ?e7, ?e8⟩, false, true, false, false, false, false, false, false, false, false, false, false, Dt.glo_mk KX G ?p0 ?i0 ?y0 ?s0 ?n0, Dt.gls_mk KX G ?p1, Dt.glo_mk KX G ?p2 ?i2 ?y2 ?s2 ?n2, Dt.glo_mk KX G ?p3 ?i3 ?y3 ?s3 ?n3, Dt.glo_mk KX G ?p4 ?i4 ?y4 ?s4 ?n4, Dt.glo_mk KX G ?p5 ?i5 ?y5 ?s5 ?n5, Dt.glo_mk KX G ?p6 ?i6 ?y6 ?s6 ?n6, Dt.glo_mk KX G ?p7 ?i7 ?y7 ?s7 ?n7, Dt.glo_mk KX G ?p8 ?i8 ?y8 ?s8 ?n8, Dt.glo_mk KX G ?p9 ?i9 ?y9 ?s9 ?n9, Dt.glo_mk KX G ?p10 ?i10 ?y10 ?s10 ?n10, Dt.glo_mk KX G ?p11 ?i11 ?y11 ?s11 ?n11, by decide +kernel⟩, Dt.glx_of KX G ?dD ?db ?dd ?dy ?ds⟩ (Dt.tabm2 ?ta ?tl ?tc ?tm ?tv) (Dt.tabm2 ?ua ?ul ?uc ?um ?uv) ?np ?nq ?ne
    (case nC => k_is)
    (case nP => k_is)
    (case nC2 => k_is)
    (case nP2 => k_is)
    (case a0 => k_is)
    (case l0 => k_is)
    (case c0 => k_is)
    (case k0 => k_is)
    (case a1 => k_is)
    (case l1 => k_is)
    (case c1 => k_is)
    (case k1 => k_is)
    (case a2 => k_is)
    (case l2 => k_is)
    (case c2 => k_is)
    (case k2 => k_is)
    (case a3 => k_is)
    (case l3 => k_is)
    (case c3 => k_is)
    (case k3 => k_is)
    (case a4 => k_is)
    (case l4 => k_is)
    (case c4 => k_is)
    (case k4 => k_is)
    (case a5 => k_is)
    (case l5 => k_is)
    (case c5 => k_is)
    (case k5 => k_is)
    (case a6 => k_is)
    (case l6 => k_is)
    (case c6 => k_is)
    (case k6 => k_is)
    (case a7 => k_is)
    (case l7 => k_is)
    (case c7 => k_is)
    (case k7 => k_is)
    (case a8 => k_is)
    (case l8 => k_is)
    (case c8 => k_is)
    (case k8 => k_is)
    (case a9 => k_is)
    (case l9 => k_is)
    (case c9 => k_is)
    (case k9 => k_is)
    (case a10 => k_is)
    (case l10 => k_is)
    (case c10 => k_is)
    (case k10 => k_is)
    (case a11 => k_is)
    (case l11 => k_is)
    (case c11 => k_is)
    (case k11 => k_is)
    (case a12 => k_is)
    (case l12 => k_is)
    (case c12 => k_is)
    (case k12 => k_is)
    (case a13 => k_is)
    (case l13 => k_is)
    (case c13 => k_is)
    (case k13 => k_is)
    (case a14 => k_is)
    (case l14 => k_is)
    (case c14 => k_is)
    (case k14 => k_is)
    (case a15 => k_is)
    (case l15 => k_is)
    (case c15 => k_is)
    (case k15 => k_is)
    (case a16 => k_is)
    (case l16 => k_is)
    (case c16 => k_is)
    (case k16 => k_is)
    (case a17 => k_is)
    (case l17 => k_is)
    (case c17 => k_is)
    (case k17 => k_is)
    (case a18 => k_is)
    (case l18 => k_is)
    (case c18 => k_is)
    (case k18 => k_is)
    (case a19 => k_is)
    (case l19 => k_is)
    (case c19 => k_is)
    (case k19 => k_is)
    (case a20 => k_is)
    (case l20 => k_is)
    (case c20 => k_is)
    (case k20 => k_is)
    (case a21 => k_is)
    (case l21 => k_is)
    (case c21 => k_is)
    (case k21 => k_is)
    (case a22 => k_is)
    (case l22 => k_is)
    (case c22 => k_is)
    (case k22 => k_is)
    (case a23 => k_is)
    (case l23 => k_is)
    (case c23 => k_is)
    (case k23 => k_is)
    (case a24 => k_is)
    (case l24 => k_is)
    (case c24 => k_is)
    (case k24 => k_is)
    (case a25 => k_is)
    (case l25 => k_is)
    (case c25 => k_is)
    (case k25 => k_is)
    (case a26 => k_is)
    (case l26 => k_is)
    (case c26 => k_is)
    (case k26 => k_is)
    (case a27 => k_is)
    (case l27 => k_is)
    (case c27 => k_is)
    (case k27 => k_is)
    (case z0 => k_is)
    (case z1 => k_is)
    (case z2 => k_is)
    (case z3 => k_is)
    (case z4 => k_is)
    (case z5 => k_is)
    (case z6 => k_is)
    (case z7 => k_is)
    (case z8 => k_is)
    (case z9 => k_is)
    (case z10 => k_is)
    (case z11 => k_is)
    (case mr => k_is)
    (case mc => k_is)
    (case nx => first | kernel_rfl | decide +kernel | rfl)
    (case nk => k_is)
    (case nb => k_is)
    (case nt => k_is)
    (case px => first | kernel_rfl | decide +kernel | rfl)
    (case pk => k_is)
    (case pb => k_is)
    (case pt => k_is)
    (case z8b => k_is)
    (case z0b => k_is)
    (case z9b => k_is)
    (case vk => k_is)
    (case e1 => k_is)
    (case e2 => k_is)
    (case e3 => k_is)
    (case e4 => k_is)
    (case e5 => k_is)
    (case e6 => k_is)
    (case e7 => k_is)
    (case e8 => k_is)
    (case p0 => k_is)
    (case i0 => k_is)
    (case y0 => k_is)
    (case s0 => k_is)
    (case n0 => decide)
    (case p1 => k_is)
    (case p2 => k_is)
    (case i2 => k_is)
    (case y2 => k_is)
    (case s2 => k_is)
    (case n2 => decide)
    (case p3 => k_is)
    (case i3 => k_is)
    (case y3 => k_is)
    (case s3 => k_is)
    (case n3 => decide)
    (case p4 => k_is)
    (case i4 => k_is)
    (case y4 => k_is)
    (case s4 => k_is)
    (case n4 => decide)
    (case p5 => k_is)
    (case i5 => k_is)
    (case y5 => k_is)
    (case s5 => k_is)
    (case n5 => decide)
    (case p6 => k_is)
    (case i6 => k_is)
    (case y6 => k_is)
    (case s6 => k_is)
    (case n6 => decide)
    (case p7 => k_is)
    (case i7 => k_is)
    (case y7 => k_is)
    (case s7 => k_is)
    (case n7 => decide)
    (case p8 => k_is)
    (case i8 => k_is)
    (case y8 => k_is)
    (case s8 => k_is)
    (case n8 => decide)
    (case p9 => k_is)
    (case i9 => k_is)
    (case y9 => k_is)
    (case s9 => k_is)
    (case n9 => decide)
    (case p10 => k_is)
    (case i10 => k_is)
    (case y10 => k_is)
    (case s10 => k_is)
    (case n10 => decide)
    (case p11 => k_is)
    (case i11 => k_is)
    (case y11 => k_is)
    (case s11 => k_is)
    (case n11 => decide)
    (case dD => k_is)
    (case db => k_is)
    (case dd => k_is)
    (case dy => k_is)
    (case ds => k_is)
    (case ta => k_is)
    (case tl => k_is)
    (case tc => rfl)
    (case tm => k_is)
    (case tv => rfl)
    (case ua => k_is)
    (case ul => k_is)
    (case uc => rfl)
    (case um => k_is)
    (case uv => rfl)
    (case np => first | kernel_rfl | decide +kernel | rfl)
    (case nq => first | kernel_rfl | decide +kernel | rfl)
    (case ne => decide)
