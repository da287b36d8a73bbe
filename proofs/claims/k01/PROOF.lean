import PyProof.Rows.All
import Wide.All
import OpenK.AllK
import Wide.FinOn
import HandS.ForMost
import HandS.Wide
import HandS.Codes
import PySem.Challenge.RW_dotread_k01_pictures_known
import PyProof.TypeEq
import PyProof.InstEq
import PyProof.StrBlock2
import HandS.TupMul
import HandS.TupAny
import HandS.More
import HandS.ForExc
import HandS.Strs
import HandS.ExcValue
import HandS.ExcIs
import HandS.Lambda
import PyProof.ListStr
import HandS.EndTab
import PyProof.ReprRoads
set_option Elab.async false
set_option linter.all false
set_option maxRecDepth 100000
set_option maxHeartbeats 4000000
namespace Dt
open PySem PySem.Spec PyProof.Rows L2
def topS (i : Nat) : Stmt := PySem.Challenge.pw_dotread_k01_pictures_known.main.body.getD i (.Pass ⟨0, 0, 0, 0⟩)
/-! ### the drawing dict -/
def drK (g c : Addr) (r t : Int) : List (Key × V) := [(.inr "great", .ref g), (.inr "rest", .int r), (.inr "cells", .ref c), (.inr "turn", .int t)]
theorem n1 : ¬ (("great" : Str) = "rest") := by decide +kernel
theorem n2 : ¬ (("great" : Str) = "cells") := by decide +kernel
theorem n3 : ¬ (("great" : Str) = "turn") := by decide +kernel
theorem n4 : ¬ (("rest" : Str) = "cells") := by decide +kernel
theorem n5 : ¬ (("rest" : Str) = "turn") := by decide +kernel
theorem n6 : ¬ (("cells" : Str) = "turn") := by decide +kernel
theorem inr_ne {a b : Str} (h : ¬ a = b) : ¬ (Sum.inr a : Key) = Sum.inr b := fun z => h (Sum.inr.inj z)
section
variable (g c : Addr) (r t z : Int)
theorem v_great : valV (drK g c r t) (Sum.inr "great" : Key) = some (.ref g) := valV_pos rfl
theorem v_rest : valV (drK g c r t) (Sum.inr "rest" : Key) = some (.int r) := (valV_neg (inr_ne n1)).trans (valV_pos rfl)
theorem v_cells : valV (drK g c r t) (Sum.inr "cells" : Key) = some (.ref c) := (valV_neg (inr_ne n2)).trans ((valV_neg (inr_ne n4)).trans (valV_pos rfl))
theorem v_turn : valV (drK g c r t) (Sum.inr "turn" : Key) = some (.int t) := (valV_neg (inr_ne n3)).trans ((valV_neg (inr_ne n5)).trans ((valV_neg (inr_ne n6)).trans (valV_pos rfl)))
theorem put_rest : putK (drK g c r t) (Sum.inr "rest" : Key) (.int z) = drK g c z t := by
  unfold putK
  rw [valV_any, v_rest]
  have m4 := fun q : ("cells" : Str) = "rest" => n4 q.symm
  have m5 := fun q : ("turn" : Str) = "rest" => n5 q.symm
  rw [if_pos (show (some (V.int r)).isSome = true from rfl)]
  unfold drK
  simp only [List.map_cons, List.map_nil, inr_ne n1, if_true, if_false, if_neg (inr_ne fun q => m4 q), if_neg (inr_ne fun q => m5 q)]
theorem put_turn : putK (drK g c r t) (Sum.inr "turn" : Key) (.int z) = drK g c r z := by
  unfold putK
  rw [valV_any, v_turn, if_pos (show (some (V.int t)).isSome = true from rfl)]
  unfold drK
  simp only [List.map_cons, List.map_nil, inr_ne n3, inr_ne n5, inr_ne n6, if_true, if_false]
end
structure Dr (H : Hp) (d g c : Addr) : Prop where
  dk : ∃ r t, H d = some (.dK (drK g c r t))
  gl : ∃ gs : List Int, H g = some (.lst (gs.map V.int)) ∧ gs.length ≤ 63
  cl : ∃ cs : List Int, H c = some (.lst (cs.map V.int)) ∧ 0 < cs.length ∧ cs.length ≤ 64
  gc : g ≠ c
/-- all but d and g stays -/
def Dn (d g : Addr) (H H' : Hp) : Prop := ∀ b o, H b = some o → b ≠ d → b ≠ g → H' b = some o
theorem Dn.refl {d g : Addr} {H : Hp} : Dn d g H H := fun _ _ e _ _ => e
theorem Dn.trans {d g : Addr} {H H1 H2 : Hp} (a : Dn d g H H1) (b : Dn d g H1 H2) : Dn d g H H2 := fun x o e h1 h2 => b x o (a x o e h1 h2) h1 h2
theorem Dn.same {d g : Addr} {H H' : Hp} (a : Same H H') : Dn d g H H' := fun b o e _ _ => a b o e
theorem same_upd {H : Hp} {p : Addr} {o : HO} (h : H p = none) : Same H (upd H p o) := fun b x e => by
  rw [upd_ne (ne_of_none e h)]
  exact e
theorem Dr.dg {H : Hp} {d g c : Addr} (D : Dr H d g c) : d ≠ g := by
  obtain ⟨⟨r, t, h1⟩, ⟨gs, h2, _⟩, _, _⟩ := D
  exact ne_of h1 h2 (by intro z; cases z)
theorem Dr.dc {H : Hp} {d g c : Addr} (D : Dr H d g c) : d ≠ c := by
  obtain ⟨⟨r, t, h1⟩, _, ⟨gs, h2, _⟩, _⟩ := D
  exact ne_of h1 h2 (by intro z; cases z)
theorem Dr.same {H H' : Hp} {d g c : Addr} (D : Dr H d g c) (s : Same H H') : Dr H' d g c := by
  obtain ⟨⟨r, t, h1⟩, ⟨gs, h2, h3⟩, ⟨cs, h4, h5⟩, h6⟩ := D
  exact ⟨⟨r, t, s _ _ h1⟩, ⟨gs, s _ _ h2, h3⟩, ⟨cs, s _ _ h4, h5⟩, h6⟩
theorem Dn.nn {d g c p : Addr} {H H' : Hp} (a : Dn d g H H') (D : Dr H' d g c) (h : H' p = none) : H p = none := by
  cases e : H p with
  | none => rfl
  | some o =>
    have h1 : p ≠ d := by
      rintro rfl
      obtain ⟨⟨r, t, q⟩, _⟩ := D
      rw [q] at h
      cases h
    have h2 : p ≠ g := by
      rintro rfl
      obtain ⟨_, ⟨gs, q, _⟩, _⟩ := D
      rw [q] at h
      cases h
    rw [a _ _ e h1 h2] at h
    cases h
section
variable {H : Hp} {d g c : Addr} {r t : Int} (h : H d = some (.dK (drK g c r t)))
include h
theorem get_great : DGet H d (.str "great") (some (.ref g)) := by
  have z := DGet.k (k := (Sum.inr "great" : Key)) h
  rw [v_great] at z
  exact z
theorem get_rest : DGet H d (.str "rest") (some (.int r)) := by
  have z := DGet.k (k := (Sum.inr "rest" : Key)) h
  rw [v_rest] at z
  exact z
theorem get_cells : DGet H d (.str "cells") (some (.ref c)) := by
  have z := DGet.k (k := (Sum.inr "cells" : Key)) h
  rw [v_cells] at z
  exact z
theorem get_turn : DGet H d (.str "turn") (some (.int t)) := by
  have z := DGet.k (k := (Sum.inr "turn" : Key)) h
  rw [v_turn] at z
  exact z
theorem dput_rest {z : Int} : DPut H d (.str "rest") (.int z) (upd H d (.dK (drK g c z t))) := by
  have q := DPut.k (k := (Sum.inr "rest" : Key)) (v := .int z) h (by show 4 < sizeLine; decide)
  rw [put_rest] at q
  exact q
theorem dput_turn {z : Int} : DPut H d (.str "turn") (.int z) (upd H d (.dK (drK g c r z))) := by
  have q := DPut.k (k := (Sum.inr "turn" : Key)) (v := .int z) h (by show 4 < sizeLine; decide)
  rw [put_turn] at q
  exact q
end
theorem dpInts {K : PySem.W.Frag} {H : Hp} : ∀ ns : List Int, DpAll K H (ns.map V.int) (ns.map PyData.int)
  | [] => .nil
  | n :: r => .cons (.int n) (dpInts r)
/-! ### _law_next -/
abbrev sNext : Stmt := topS 47
theorem scNext : FnScope ["draw", "below", "number", "turn", "stock", "made", "prime"] ["draw", "below"] (defScope sNext) := ⟨rfl, rfl, rfl, by decide +kernel, rfl, by decide +kernel, by decide +kernel⟩
def spNext : Sp := fun vs H Q _ => ∃ (d g c : Addr) (b : Int), vs = [.ref d, .int b] ∧ Dr H d g c ∧ 0 < b ∧ b < 1073741824 ∧ ∀ (n : Int) (H' : Hp), 0 ≤ n → n < b → Dr H' d g c → Dn d g H H' → Q (.int n) H'
section
variable {P : Program} {w : World} {K : PySem.W.Frag} {mg : Str → Option Value} {base : Heap}
theorem ok_next {f : Addr} {fd : FuncData} {k : Nat} (F : Fun K "_law_next" "_law_next" sNext f fd) (ml : mg "len" = none) : FnOk P w K mg base CX0 (k + 1) f fd ["draw", "below"] spNext := by
  refine F.ok scNext (fun vs H Q E h => ?_) (fun cdv A outer s H vs Q E hr h => ?_)
  · obtain ⟨d, g, c, b, rfl, _⟩ := h
    rfl
  · obtain ⟨d, g, c, b, rfl, D, hb0, hb1, q⟩ := h
    have hu := hu_of hr
    have nd := scNext.nd
    refine ⟨_, C8.pss_cut (ps_if (PW.pt (pw_and (pt_cmpR op_lt (pe_dget hu (pv 0) pe_str (fun _ _ => rfl)) pe_int (nomark _)) (pw_and1 (pt_cmpR (op_neD hr.units) (pe_dget hu (pv 0) pe_str (fun _ _ => rfl)) (pe_lst pa_nil) (nomark _)))))
        (pss_one (ps_dput hu (pv 0) pe_str (pe_bm PySem.F.plainAttrs_list PySem.F.slot_list_pop PySem.F.type_list_pop mt_popAt (pe_dget hu (pv 0) pe_str (fun _ _ => rfl)) (pa_cons pe_int pa_nil)) rfl)) pss_nil)
      (pss_cons (ps_if (pt_cmpR op_gt (pe_dget hu (pv 0) pe_str (fun _ _ => rfl)) pe_int (nomark _))
        (pss_cons (ps_set (i := 2) nd rfl (.inl rfl) (pe_op op_mod (pe_dget hu (pv 0) pe_str (fun _ _ => rfl)) (pv 1)))
        (pss_cons (ps_dput hu (pv 0) pe_str (pe_op op_fdiv (pe_dget hu (pv 0) pe_str (fun _ _ => rfl)) (pv 1)) rfl)
        (pss_one (ps_ret (pv 2))))) pss_nil)
      (pss_cons (ps_par (i := 3) (j := 4) (by rfl) nd rfl rfl (by decide) rfl rfl (pa_cons (pe_dget hu (pv 0) pe_str (fun _ _ => rfl)) (pa_cons (pe_dget hu (pv 0) pe_str (fun _ _ => rfl)) pa_nil)) (by rfl))
      (pss_cons (ps_dput hu (pv 0) pe_str (pe_op op_add (pv 3) pe_int) rfl)
      (pss_cons (ps_set (i := 5) nd rfl (.inl rfl) (pe_op op_mod (pe_op op_mul (pe_op op_add (pe_op op_add (pe_ix ix_list (pv 4) (pe_op op_mod (pv 3) (pe_callB call_len_seq (by rfl) ml PySem.boot_len (pa_cons (pv 4) pa_nil))) (fun _ _ => rfl)) (pe_op op_mul pe_int (pv 3))) pe_int) pe_int) pe_int))
      (pss_cons (ps_set (i := 6) nd rfl (.inl rfl) (pe_ix ix_list (pe_lst (pa_cons pe_int (pa_cons pe_int (pa_cons pe_int (pa_cons pe_int (pa_cons pe_int pa_nil)))))) (pe_op op_mod (pv 3) pe_int) (fun _ _ => rfl)))
      (pss_one (ps_ret (pe_op op_mod (pe_op op_fdiv (pe_op op_mod (pe_op op_mul (pv 5) (pe_op op_add (pe_op op_add (pv 5) (pe_op op_mul pe_int (pv 3))) pe_int)) (pv 6)) pe_int) (pv 1))))))))), ?_⟩
    obtain ⟨⟨r, t, hd⟩, ⟨gs, hg, lg⟩, ⟨cs, hc, lc0, lc⟩, gc⟩ := id D
    refine ⟨fun σ' H' => σ' = [some (.ref d), some (.int b), none, none, none, none, none] ∧ Dr H' d g c ∧ Dn d g H H', ?_, ?_⟩
    · refine ⟨.ref d, rfl, d, .int r, rfl, get_rest hd, r, 2, rfl, rfl, _, rfl, ite2 (fun e => ?_) (fun e => iteF ⟨rfl, D, Dn.refl⟩)⟩
      refine ⟨.ref d, rfl, d, .ref g, rfl, get_great hd, ?_⟩
      refine ⟨by show 0 ≤ sizeLine; decide, fun p hp => ?_⟩
      refine ⟨.list (gs.map PyData.int), .list [], .lst (SqL.of ((same_upd hp) _ _ hg)) (dpInts gs), .lst (SqL.of upd_same) .nil, PySem.W.ke_shaped_ints gs, by decide +kernel, _, rfl, ?_⟩
      have D1 := D.same (same_upd (o := .lst []) hp)
      cases gs with
      | nil => exact iteF ⟨rfl, D1, Dn.same (same_upd hp)⟩
      | cons z zs =>
        refine iteT ?_
        have hg1 := (same_upd (o := .lst []) hp) _ _ hg
        have hd1 := (same_upd (o := .lst []) hp) _ _ hd
        have hc1 := (same_upd (o := .lst []) hp) _ _ hc
        have hd2 : (upd (upd H p (.lst [])) g (.lst (((z :: zs).map V.int).eraseIdx 0))) d = some (.dK (drK g c r t)) := by
          rw [upd_ne D.dg]
          exact hd1
        have sq0 : seqIndex? 0 ((z :: zs).map V.int).length = some 0 := by simp [seqIndex?]
        refine ⟨.ref d, rfl, d, .ref g, rfl, get_great hd1, .inl ⟨rfl, _, SqL.of hg1⟩, g, _, 0, 0, .int z, rfl, rfl, hg1, by decide, by decide, sq0, rfl, .ref d, rfl, d, _, rfl, dput_rest hd2, rfl, ⟨⟨z, t, upd_same⟩, ⟨zs, ?_, ?_⟩, ⟨cs, ?_, lc0, lc⟩, gc⟩, ?_⟩
        · rw [upd_ne D.dg.symm, upd_same]
          rfl
        · simp only [List.length_cons] at lg
          omega
        · rw [upd_ne D.dc.symm, upd_ne gc.symm]
          exact hc1
        · intro b' o e' h1 h2
          rw [upd_ne h1, upd_ne h2]
          exact (same_upd hp) _ _ e'
    · rintro σ' H1 ⟨rfl, D1, dn⟩
      obtain ⟨⟨r1, t1, hd1⟩, ⟨gs1, hg1, lg1⟩, ⟨cs1, hc1, lc01, lc1⟩, gc1⟩ := id D1
      refine ⟨.ref d, rfl, d, .int r1, rfl, get_rest hd1, r1, 1, rfl, rfl, _, rfl, ite2 (fun e => ?_) (fun e => ?_)⟩
      · refine ⟨.ref d, rfl, d, .int r1, rfl, get_rest hd1, .int b, rfl, r1, b, rfl, rfl, hb0, ?_⟩
        refine ⟨.ref d, rfl, d, .int r1, rfl, get_rest hd1, .int b, rfl, r1, b, rfl, rfl, ⟨hb0, hb1⟩, .ref d, rfl, d, _, rfl, dput_rest hd1, .int (r1 % b), rfl, q _ _ (Int.emod_nonneg _ (by omega)) (Int.emod_lt_of_pos _ hb0) ⟨⟨_, t1, upd_same⟩, ⟨gs1, ?_, lg1⟩, ⟨cs1, ?_, lc01, lc1⟩, gc1⟩ ?_⟩
        · rw [upd_ne D1.dg.symm]
          exact hg1
        · rw [upd_ne D1.dc.symm]
          exact hc1
        · intro b' o e' h1 h2
          rw [upd_ne h1]
          exact dn _ _ e' h1 h2
      · refine ⟨.ref d, rfl, d, .int t1, rfl, get_turn hd1, .ref d, rfl, d, .ref c, rfl, get_cells hd1, .int t1, .ref c, rfl, ?_⟩
        refine ⟨.int t1, rfl, t1, 1, rfl, rfl, .ref d, rfl, d, _, rfl, dput_turn hd1, ?_⟩
        have hc2 : (upd H1 d (.dK (drK g c r1 (t1 + 1)))) c = some (.lst (cs1.map V.int)) := by
          rw [upd_ne D1.dc.symm]
          exact hc1
        have hlen : ((cs1.map V.int).length : Int) = (cs1.length : Int) := by rw [List.length_map]
        have hpos : (0 : Int) < ((cs1.map V.int).length : Int) := by omega
        have m0 : 0 ≤ t1 % ((cs1.map V.int).length : Int) := Int.emod_nonneg _ (by omega)
        have m1 := Int.emod_lt_of_pos t1 hpos
        obtain ⟨j, hj⟩ := Int.eq_ofNat_of_zero_le m0
        have hj2 : j < cs1.length := by omega
        have hat : atI (cs1.map V.int) (t1 % ((cs1.map V.int).length : Int)) = some (.int cs1[j]) := by
          rw [hj]
          refine atI_nat ?_
          rw [List.getElem?_map, List.getElem?_eq_getElem hj2]
          rfl
        refine ⟨.ref c, rfl, .int t1, rfl, .ref c, rfl, c, _, rfl, .inl (SqL.of hc2), t1, _, rfl, rfl, hpos, c, _, _, .int cs1[j], rfl, rfl, SqL.of hc2, hat, .int t1, rfl, 1299721, t1, rfl, rfl, .inl ⟨by decide, by decide⟩, _, _, rfl, rfl, _, _, rfl, rfl, _, _, rfl, rfl, .inr ⟨by decide, by decide⟩, _, _, rfl, rfl, (by show (0 : Int) < 2147483647; decide), ?_⟩
        have hpr : ∃ z : Int, 0 < z ∧ atI [V.int 2147483629, V.int 2147483587, V.int 2147483579, V.int 2147483563, V.int 2147483549] (t1 % 5) = some (.int z) := by
          have a0 := Int.emod_nonneg t1 (show (5 : Int) ≠ 0 by decide)
          have a1 := Int.emod_lt_of_pos t1 (show (0 : Int) < 5 by decide)
          rcases (show t1 % 5 = 0 ∨ t1 % 5 = 1 ∨ t1 % 5 = 2 ∨ t1 % 5 = 3 ∨ t1 % 5 = 4 by omega) with x | x | x | x | x <;> rw [x]
          · exact ⟨2147483629, by decide, rfl⟩
          · exact ⟨2147483587, by decide, rfl⟩
          · exact ⟨2147483579, by decide, rfl⟩
          · exact ⟨2147483563, by decide, rfl⟩
          · exact ⟨2147483549, by decide, rfl⟩
        obtain ⟨z, hz, hat2⟩ := hpr
        refine ⟨by show 5 ≤ sizeLine; decide, fun l hl => ⟨.int t1, rfl, t1, 5, rfl, rfl, (by show (0 : Int) < 5; decide), l, _, _, .int z, rfl, rfl, SqL.of upd_same, hat2, ?_⟩⟩
        have mm0 := Int.emod_nonneg ((cs1[j] + 1299721 * t1 + 7919) * 48271) (show (2147483647 : Int) ≠ 0 by decide)
        have mm1 := Int.emod_lt_of_pos ((cs1[j] + 1299721 * t1 + 7919) * 48271) (show (0 : Int) < 2147483647 by decide)
        have dl := same_upd (o := .lst [V.int 2147483629, V.int 2147483587, V.int 2147483579, V.int 2147483563, V.int 2147483549]) hl
        refine ⟨_, rfl, _, rfl, .int t1, rfl, 2, t1, rfl, rfl, .inl ⟨by decide, by decide⟩, _, _, rfl, rfl, _, _, rfl, rfl, _, _, rfl, rfl, .inl ⟨by omega, by omega⟩, .int z, rfl, _, _, rfl, rfl, hz, _, _, rfl, rfl, ⟨by decide, by decide⟩, .int b, rfl, _, _, rfl, rfl, hb0, q _ _ (Int.emod_nonneg _ (by omega)) (Int.emod_lt_of_pos _ hb0) ?_ ?_⟩
        · refine Dr.same ⟨⟨_, _, upd_same⟩, ⟨gs1, ?_, lg1⟩, ⟨cs1, hc2, lc01, lc1⟩, gc1⟩ dl
          rw [upd_ne D1.dg.symm]
          exact hg1
        · intro b' o e' h1 h2
          refine dl _ _ ?_
          rw [upd_ne h1]
          exact dn _ _ e' h1 h2
end
end Dt
/-! rules of our own: types compared, a text times a number -/
namespace TyNe
open PySem PySem.TypeEq
open Sem (wp)
open Builtin
theorem slot_type_ne : Slot "type" (cmpInfo .NotEq).2.1 "object.__ne__" :=
  .of (owner := "object") (n := "__ne__") (by rw [typeLookup_type, builtinLookup_eq_fast]; kernel_rfl) (by decide +kernel) (by decide +kernel) (by decide +kernel)
    (by first | exact .inl (by decide +kernel) | exact .inr (by decide +kernel)) (by rw [isSubtype_type]; kernel_rfl)
theorem slot_type_ne2 : Slot "type" (cmpInfo .NotEq).2.2 "object.__ne__" :=
  .of (owner := "object") (n := "__ne__") (by rw [typeLookup_type, builtinLookup_eq_fast]; kernel_rfl) (by decide +kernel) (by decide +kernel) (by decide +kernel)
    (by first | exact .inl (by decide +kernel) | exact .inr (by decide +kernel)) (by rw [isSubtype_type]; kernel_rfl)
section
variable {prog : Program} {w : World} {A : Around} {E : Value → Shared → Prop} {s : Shared}
theorem call_ne_same {X : String} {Q : Value → Shared → Prop} (hX : ∀ s' : Shared, s'.TypeIs (.type X) "type") (h : Q (.bool false) s) : wpAny (model prog w) A (call (.builtin "object.__ne__") [.type X, .type X]) Q E s := by
  refine wpAny_call (codeAny_call_builtin slot_type_ne.plain F.cmpEntry_ne (slot_type_ne.check _ _ _ _ _ _ _ _ (hX s) (F.cmpArgs_ne _ _) ?_))
  unfold Builtin.«object.__ne__»
  repeat (first
    | with_reducible refine wpAny_cRoomFor_or (.inl rfl) ?_
    | (refine wpAny_bind (m := callSpecialIfBound? (.type X) (Str.ofString "__eq__") [.type X])
        (wpAny_callSpecialIfBound?_slot (hX _) slot_type_eq (call_gives slot_type_eq (hX _) F.entry_object_eq (F.args_object_eq_2 _ _) (object_eq_same rfl (by simp)) ?_)))
    | wp_step)
  show wpAny (model prog w) A.in1 (truthy (.bool true) >>= fun b => ret (.bool !b)) _ _ _
  exact wpAny_bind (wpAny_truthy_bool (wpAny_pure h))
theorem call_ne_other {X Y : String} {Q : Value → Shared → Prop} (hX : ∀ s' : Shared, s'.TypeIs (.type X) "type") (hne : (Value.type X == Value.type Y) = false) (h : Q .notImplemented s) : wpAny (model prog w) A (call (.builtin "object.__ne__") [.type X, .type Y]) Q E s := by
  refine wpAny_call (codeAny_call_builtin slot_type_ne.plain F.cmpEntry_ne (slot_type_ne.check _ _ _ _ _ _ _ _ (hX s) (F.cmpArgs_ne _ _) ?_))
  unfold Builtin.«object.__ne__»
  repeat (first
    | with_reducible refine wpAny_cRoomFor_or (.inl rfl) ?_
    | (refine wpAny_bind (m := callSpecialIfBound? (.type X) (Str.ofString "__eq__") [.type Y])
        (wpAny_callSpecialIfBound?_slot (hX _) slot_type_eq (call_gives slot_type_eq (hX _) F.entry_object_eq (F.args_object_eq_2 _ _) (object_eq_other rfl hne) ?_)))
    | wp_step)
  show wpAny (model prog w) A.in1 (ret .notImplemented) _ _ _
  exact wpAny_pure h
theorem ne_type_same {X : String} {Q : Value → Shared → Prop} (hX : ∀ s' : Shared, s'.TypeIs (.type X) "type") (h : Q (.bool false) s) : wpAny (model prog w) A (compareOp .NotEq (.type X) (.type X)) Q E s := by
  show wpAny _ A (richCompare .NotEq _ _) Q E s
  exact wpAny_richCompare_same (T := "type") (hX s) (hX s) slot_type_ne (call_ne_same hX ⟨(by intro e; cases e), h⟩)
theorem ne_type_other {X Y : String} {Q : Value → Shared → Prop} (hX : ∀ s' : Shared, s'.TypeIs (.type X) "type") (hY : ∀ s' : Shared, s'.TypeIs (.type Y) "type") (hne : (Value.type X == Value.type Y) = false) (h : Q (.bool true) s) :
    wpAny (model prog w) A (compareOp .NotEq (.type X) (.type Y)) Q E s := by
  have hne' : (Value.type Y == Value.type X) = false := by
    rw [Bool.eq_false_iff] at hne ⊢
    intro e
    exact hne (by rw [beq_iff_eq] at e ⊢; exact e.symm)
  show wpAny _ A (richCompare .NotEq _ _) Q E s
  have h1 := slot_type_ne
  have h2 := slot_type_ne2
  rcases hi : cmpInfo CmpOp.NotEq with ⟨sym, f, r⟩
  rw [hi] at h1 h2
  simp only [richCompare, hi, (hX s).oneThing_none]
  try with_reducible refine wpAny_holding ?_
  refine wpAny_bind (wpAny_cRoomFor_or (.inl rfl) ?_)
  refine wpAny_bind (wpAny_typeOf (hX s) (wpAny_bind (wpAny_typeOf (hY s) ?_)))
  simp only [bne_self_eq_false, Bool.false_eq_true, if_false, pure_bind, Bool.not_false, if_true]
  refine wpAny_bind (m := tryCompare _ _ _) (wpAny_tryCompare_declines (hX s) h1 (call_ne_other hX hne ⟨rfl, ?_⟩))
  refine wpAny_bind (m := tryCompare _ _ _) (wpAny_tryCompare_declines (hY _) h2 (call_ne_other hY hne' ⟨rfl, ?_⟩))
  refine wpAny_bind (wpAny_rule (wpAny_bind (wpAny_of_eq (a := false) (by rw [isSame_plain rfl, hne]) (wpAny_pure h))))
end
end TyNe
namespace L2X
open PySem PySem.Spec PyProof.Rows L2
/-- the built-in classes that are compared here -/
def tyOk (a : String) : Bool := a = "int" ∨ a = "str" ∨ a = "bool" ∨ a = "NoneType" ∨ a = "list" ∨ a = "tuple" ∨ a = "dict"
theorem tyOk_is {a : String} (h : tyOk a = true) : ∀ s' : Shared, s'.TypeIs (.type a) "type" := by
  unfold tyOk at h
  rcases of_decide_eq_true h with rfl | rfl | rfl | rfl | rfl | rfl | rfl
  · exact TypeEq.meta_int
  · exact TypeEq.meta_str
  · exact TypeEq.meta_bool
  · exact TypeEq.meta_NoneType
  · exact TypeEq.meta_list
  · exact TypeEq.meta_tuple
  · exact TypeEq.meta_dict
theorem ty_ne {a b : String} (h : a ≠ b) : (Value.type a == Value.type b) = false := beq_eq_false_iff_ne.mpr fun z => h (Value.type.inj z)
def rTyC (g : Bool → Bool) : R2 := fun x y H Q => ∃ a b, x = .ty a ∧ y = .ty b ∧ tyOk a = true ∧ tyOk b = true ∧ Q (.bl (g (decide (a = b)))) H
section
variable {X : Cx}
theorem op_eq_ty : OpR X (compareOp .Eq) (rTyC id) := by
  intro pins s σ H x y v u Q I rx ry h
  obtain ⟨a, b, rfl, rfl, ha, hb, q⟩ := h
  cases (show v = Value.type a from rx)
  cases (show u = Value.type b from ry)
  by_cases e : a = b
  · subst e
    refine TypeEq.eq_type_same (tyOk_is ha) ⟨.bl true, H, I, rfl, ?_⟩
    rw [decide_eq_true rfl] at q
    exact q
  · refine TypeEq.eq_type_other (tyOk_is ha) (tyOk_is hb) (ty_ne e) ⟨.bl false, H, I, rfl, ?_⟩
    rw [decide_eq_false e] at q
    exact q
theorem op_ne_ty : OpR X (compareOp .NotEq) (rTyC not) := by
  intro pins s σ H x y v u Q I rx ry h
  obtain ⟨a, b, rfl, rfl, ha, hb, q⟩ := h
  cases (show v = Value.type a from rx)
  cases (show u = Value.type b from ry)
  by_cases e : a = b
  · subst e
    refine TyNe.ne_type_same (tyOk_is ha) ⟨.bl false, H, I, rfl, ?_⟩
    rw [decide_eq_true rfl] at q
    exact q
  · refine TyNe.ne_type_other (tyOk_is ha) (tyOk_is hb) (ty_ne e) ⟨.bl true, H, I, rfl, ?_⟩
    rw [decide_eq_false e] at q
    exact q
/-- text * n -/
theorem op_mul_str : OpR X (binaryOp .Mult) (fun x y H Q => ∃ z n, x = .str z ∧ y = .int n ∧ MulOk z n ∧ Q (.str (Txt.mul z n)) H) := by
  intro pins s σ H x y v u Q I rx ry h
  obtain ⟨z, n, rfl, rfl, hk, q⟩ := h
  obtain ⟨t, rfl⟩ := rx
  obtain ⟨t', rfl⟩ := ry
  exact SB.mul hk fun t' k => ⟨.str _, H, I.tok _, ⟨_, rfl⟩, q⟩
end
end L2X
namespace Dt
open PySem PySem.Spec PyProof.Rows L2 L2X
open SX (S)
/-- the built-ins that are named in the text -/
structure Tx (mg : Str → Option Value) : Prop where
  len : mg "len" = none
  range : mg "range" = none
  tuple : mg "tuple" = none
  list : mg "list" = none
  int : mg "int" = none
/-! ### _law_begun -/
abbrev sBegun : Stmt := topS 46
theorem scBegun : FnScope ["script", "great", "cell"] ["script"] (defScope sBegun) := ⟨rfl, rfl, rfl, by decide +kernel, rfl, by decide +kernel, by decide +kernel⟩
def spBegun (K : PySem.W.Frag) : Sp := fun vs H Q _ => ∃ (a : Addr) (ns : List Int), vs = [.ref a] ∧ SqL K H a (ns.map V.int) ∧ ns.length ≤ 63 ∧ ∀ (d g c : Addr) (H' : Hp), Same H H' → H d = none → H g = none → Dr H' d g c → Q (.ref d) H'
section
variable {P : Program} {w : World} {K : PySem.W.Frag} {mg : Str → Option Value} {base : Heap}
theorem merge_dr (g c : Addr) (r t : Int) : mergeK [] (drK g c r t) = drK g c r t := by
  have a1 : putK ([] : List (Key × V)) (.inr "great") (.ref g) = [(.inr "great", .ref g)] := putK_new _ rfl
  have a2 : putK [((.inr "great" : Key), V.ref g)] (.inr "rest") (.int r) = [(.inr "great", .ref g), (.inr "rest", .int r)] := putK_new _ ((valV_neg (inr_ne n1)).trans rfl)
  have a3 : putK [((.inr "great" : Key), V.ref g), (.inr "rest", .int r)] (.inr "cells") (.ref c) = [(.inr "great", .ref g), (.inr "rest", .int r), (.inr "cells", .ref c)] := putK_new _ ((valV_neg (inr_ne n2)).trans ((valV_neg (inr_ne n4)).trans rfl))
  have a4 : putK [((.inr "great" : Key), V.ref g), (.inr "rest", .int r), (.inr "cells", .ref c)] (.inr "turn") (.int t) = [(.inr "great", .ref g), (.inr "rest", .int r), (.inr "cells", .ref c), (.inr "turn", .int t)] :=
    putK_new _ ((valV_neg (inr_ne n3)).trans ((valV_neg (inr_ne n5)).trans ((valV_neg (inr_ne n6)).trans rfl)))
  show putK (putK (putK (putK ([] : List (Key × V)) (.inr "great") (.ref g)) (.inr "rest") (.int r)) (.inr "cells") (.ref c)) (.inr "turn") (.int t) = _
  rw [a1, a2, a3, a4]
  rfl
theorem ok_begun {f : Addr} {fd : FuncData} {k : Nat} (F : Fun K "_law_begun" "_law_begun" sBegun f fd) (T : Tx mg) : FnOk P w K mg base CX0 (k + 1) f fd ["script"] (spBegun K) := by
  refine F.ok scBegun (fun vs H Q E h => ?_) (fun cdv A outer s H vs Q E hr h => ?_)
  · obtain ⟨a, ns, rfl, _⟩ := h
    rfl
  · obtain ⟨a, ns, rfl, hS, hl, q⟩ := h
    have hu := hu_of hr
    have nd := scBegun.nd
    refine ⟨_, pss_cons (ps_setLc (i := 1) (own := [("cell", 2)]) (g := gName 2) (by rfl) nd rfl rfl (sw_true rfl rfl rfl (by decide +kernel)) (pi_list (pv 0)) (blkOk_by (N := ["script", "great", "cell"]) (sc := defScope sBegun) (by decide +kernel)) (fun _ _ _ _ _ => pg_name (i := 2) nd rfl (Or.inl rfl)) (fun _ _ _ _ _ => pts_one (pt_cmpR op_ge (pv 2) (pe_op op_pow pe_int pe_int) (nomark _))) (fun _ _ _ _ _ => pv 2))
      (pss_one (ps_ret (pe_disp (pps_cons pe_str (pv 1) (pps_cons pe_str pe_int (pps_cons pe_str (pe_op op_cat (pe_callTy call_list_of (by rfl) T.list (by decide +kernel) (pa_cons (pv 0) pa_nil)) (pe_lst (pa_cons (pe_op op_add (pe_callB call_len_seq (by rfl) T.len PySem.boot_len (pa_cons (pv 0) pa_nil)) pe_int) pa_nil))) (pps_cons pe_str pe_int pps_nil)))) (by rfl) (by rfl) (fun z => by cases z) (by decide)))), ?_⟩
    refine ⟨.ref a, rfl, a, rfl, ⟨_, hS⟩, fun D hD => lc_list (K := K) (a := a) (xs := ns.map V.int) (fun i H2 => Same H H2 ∧ ∃ gs : List Int, H2 D = some (.lst (gs.map V.int)) ∧ gs.length ≤ i) ⟨same_upd hD, [], upd_same, Nat.le_refl _⟩ (fun i H2 _ ⟨sm, _⟩ => sm.seq hS) ?_ ?_⟩
    · rintro i x H2 hi ⟨sm, gs, hg, hlg⟩
      obtain ⟨z, hz, rfl⟩ : ∃ z, ns[i]? = some z ∧ x = V.int z := by
        rw [List.getElem?_map] at hi
        cases e : ns[i]? with
        | none =>
          rw [e] at hi
          cases hi
        | some z =>
          rw [e] at hi
          exact ⟨z, rfl, (Option.some.inj hi).symm⟩
      have hin : i < ns.length := by
        rcases Nat.lt_or_ge i ns.length with h | h
        · exact h
        · rw [List.getElem?_eq_none h] at hz
          cases hz
      refine ⟨rfl, .int z, rfl, 10, 18, rfl, rfl, ⟨by decide, by decide, by decide⟩, z, _, rfl, rfl, _, rfl, ?_⟩
      cases decide ((10 : Int) ^ Int.toNat 18 ≤ z) with
      | false => exact iteF ⟨sm, gs, hg, by omega⟩
      | true =>
        refine iteT ⟨.int z, rfl, gs.map V.int, hg, ?_, ?_, gs ++ [z], ?_, ?_⟩
        · rw [List.length_map]
          exact small1000 (by omega)
        · exact fun b o e => by
            rw [upd_ne (ne_of_none e hD)]
            exact sm _ _ e
        · rw [upd_same, List.map_append]
          rfl
        · rw [List.length_append]
          show gs.length + 1 ≤ i + 1
          omega
    · rintro H2 ⟨sm, gs, hg, hlg⟩
      rw [List.length_map] at hlg
      refine fun p hp => ?_
      have s1 : Same H2 (upd H2 p (.dK [])) := same_upd hp
      have h1 : SqL K (upd H2 p (.dK [])) a (ns.map V.int) := s1.seq (sm.seq hS)
      refine ⟨.ref D, rfl, .ref a, rfl, a, _, rfl, .inl h1, fun l hl2 => ?_⟩
      have s2 := same_upd (o := .lst (ns.map V.int)) hl2
      refine ⟨.ref a, rfl, a, _, rfl, .inl (s2.seq h1), _, 5, rfl, rfl, (by show 1 ≤ sizeLine; decide), fun l2 hl3 => ?_⟩
      have s3 := same_upd (o := .lst [V.int (((ns.map V.int).length : Int) + 5)]) hl3
      refine ⟨l, l2, ns.map V.int, _, rfl, rfl, s3 _ _ upd_same, upd_same, ?_, fun c hc => ?_⟩
      · rw [List.length_map]
        show ns.length + 1 ≤ sizeLine
        exact Nat.le_of_lt (small1000 (by omega))
      · have s4 := same_upd (o := .lst (ns.map V.int ++ [V.int (((ns.map V.int).length : Int) + 5)])) hc
        have hp4 := s4 _ _ (s3 _ _ (s2 _ _ (upd_same (H := H2) (a := p) (o := .dK []))))
        have hD4 := s4 _ _ (s3 _ _ (s2 _ _ (s1 _ _ hg)))
        have nDp : D ≠ p := ne_of_none hg hp
        have npc : p ≠ c := ne_of_none (s3 _ _ (s2 _ _ (upd_same (H := H2) (a := p) (o := .dK [])))) hc
        have nDc : D ≠ c := ne_of_none (s3 _ _ (s2 _ _ (s1 _ _ hg))) hc
        have sA : Same H (upd (upd (upd (upd H2 p (.dK [])) l (.lst (ns.map V.int))) l2 (.lst [V.int (((ns.map V.int).length : Int) + 5)])) c (.lst (ns.map V.int ++ [V.int (((ns.map V.int).length : Int) + 5)]))) := fun b o e => s4 _ _ (s3 _ _ (s2 _ _ (s1 _ _ (sm _ _ e))))
        have hp0 : H p = none := by
          cases e : H p with
          | none => rfl
          | some o =>
            rw [sm _ _ e] at hp
            cases hp
        refine ⟨hp4, drK D c 0 0, rfl, (by show 4 ≤ 15; decide), q p D c _ (fun b o e => ?_) hp0 hD ⟨⟨0, 0, ?_⟩, ⟨gs, ?_, by omega⟩, ⟨ns ++ [(((ns.map V.int).length : Int) + 5)], ?_, ?_, ?_⟩, nDc⟩⟩
        · rw [upd_ne (ne_of_none e hp0)]
          exact sA _ _ e
        · rw [merge_dr]
          exact upd_same
        · rw [upd_ne nDp]
          exact hD4
        · rw [upd_ne npc.symm, upd_same, List.map_append]
          rfl
        · rw [List.length_append]
          show 0 < ns.length + 1
          omega
        · rw [List.length_append]
          show ns.length + 1 ≤ 64
          omega
/-! ### rows and pictures -/
def rv (l : List Nat) : V := .str (S l)
structure RowR (wide : Nat) (l : List Nat) : Prop where
  len : l.length = wide
  sg : ∀ c ∈ l, c = 35 ∨ c = 46
structure PicR (high wide : Nat) (rs : List (List Nat)) : Prop where
  len : rs.length = high
  row : ∀ l ∈ rs, RowR wide l
  h0 : 1 ≤ high
  h1 : high ≤ 60
  w0 : 1 ≤ wide
  w1 : wide ≤ 120
theorem s_dot : ("." : Str) = S [46] := by decide +kernel
theorem s_hash : ("#" : Str) = S [35] := by decide +kernel
theorem s_empty : ("" : Str) = S [] := by decide +kernel
/-! ### a sign many times; signs joined -/
theorem fold_rep (c : Nat) : ∀ (n : Nat) (acc : Array Nat), (List.replicate n #[c]).foldl (· ++ ·) acc = acc ++ (List.replicate n c).toArray
  | 0, acc => by simp
  | n + 1, acc => by
    rw [List.replicate_succ, List.foldl_cons, fold_rep c n (acc ++ #[c]), List.replicate_succ]
    apply Array.ext'
    simp
theorem mul_sign (c n : Nat) (h : 1 ≤ n) : Txt.mul (S [c]) (n : Int) = S (List.replicate n c) := by
  unfold Txt.mul
  rw [if_neg (by omega)]
  by_cases e : n = 1
  · subst e
    rfl
  · have e1 : (((n : Int) == 1) || (S [c]).length == 0) = false := by
      have a1 : ((n : Int) == 1) = false := by
        rw [beq_eq_false_iff_ne]
        omega
      rw [a1]
      rfl
    rw [e1, if_neg Bool.false_ne_true]
    have q := fold_rep c n #[]
    show (⟨(List.replicate (n : Int).toNat #[c]).foldl (· ++ ·) #[]⟩ : Str) = _
    rw [Int.toNat_natCast, q]
    simp [S]
theorem mul_ok (c n : Nat) (h : 1 ≤ n) (h2 : n ≤ 120) : MulOk (S [c]) (n : Int) := by
  refine ⟨?_, fun _ _ => ?_, fun _ _ => ?_⟩
  · rw [Bool.or_eq_false_iff, decide_eq_false_iff_not, decide_eq_false_iff_not]
    omega
  · show ¬ ((1 : Nat) : Int) > (2 ^ 63 - 1) / (n : Int)
    have : (1 : Int) ≤ (2 ^ 63 - 1) / (n : Int) := (Int.le_ediv_iff_mul_le (by omega)).mpr (by omega)
    omega
  · have e : (S [c]).length * (n : Int).toNat = n := by
      show 1 * (n : Int).toNat = n
      omega
    rw [e]
    unfold Builtin.Str.tooLong
    have z : n ≤ sizeLine := Nat.le_of_lt (small1000 (by omega))
    first
      | (rw [decide_eq_false_iff_not]; omega)
      | (simp; omega)
theorem joinL_ones : ∀ cs : List Nat, TL.joinL [] (cs.map fun c => [c]) = cs
  | [] => rfl
  | [c] => rfl
  | c :: d :: r => by
    show [c] ++ ([] ++ TL.joinL [] ((d :: r).map fun c => [c])) = _
    rw [joinL_ones (d :: r)]
    rfl
theorem join_ones (cs : List Nat) : Txt.join "" (cs.map fun c => S [c]) = S cs := by
  rw [s_empty]
  have e := SX.join_S [] (cs.map fun c => [c])
  rw [joinL_ones, List.map_map] at e
  exact e
theorem lens_ones : ∀ cs : List Nat, ((cs.map fun c => S [c]).map (·.length)).sum = cs.length
  | [] => rfl
  | c :: r => by
    show 1 + ((r.map fun c => S [c]).map (·.length)).sum = r.length + 1
    rw [lens_ones r, Nat.add_comm]
theorem row_rep (c wide : Nat) (h : c = 35 ∨ c = 46) : RowR wide (List.replicate wide c) := ⟨List.length_replicate, fun x hx => by rw [(List.mem_replicate.mp hx).2]; exact h⟩
theorem Dr.new {d g c p : Addr} {H : Hp} (D : Dr H d g c) (hn : H p = none) : p ≠ d ∧ p ≠ g := by
  obtain ⟨⟨r, t, h1⟩, ⟨gs, h2, _⟩, _, _⟩ := D
  exact ⟨fun z => by (rw [z, h1] at hn; cases hn), fun z => by (rw [z, h2] at hn; cases hn)⟩
/-! ### _law_picture -/
abbrev sPic : Stmt := topS 49
theorem scPic : FnScope ["draw", "high", "wide", "share", "rows", "r", "row", "c"] ["draw", "high", "wide"] (defScope sPic) := ⟨rfl, rfl, rfl, by decide +kernel, rfl, by decide +kernel, by decide +kernel⟩
def spPic : Sp := fun vs H Q _ => ∃ (d g c : Addr) (high wide : Nat), vs = [.ref d, .int high, .int wide] ∧ Dr H d g c ∧ 1 ≤ high ∧ high ≤ 60 ∧ 1 ≤ wide ∧ wide ≤ 120 ∧
  ∀ (a : Addr) (rs : List (List Nat)) (H' : Hp), PicR high wide rs → H a = none → H' a = some (.tup (rs.map rv)) → Dr H' d g c → Dn d g H H' → Q (.ref a) H'
theorem ok_pic {f fN : Addr} {fd fdN : FuncData} {k : Nat} (F : Fun K "_law_picture" "_law_picture" sPic f fd) (T : Tx mg) (GN : FnOk P w K mg base CX0 (k + 1) fN fdN ["draw", "below"] spNext) (mN : mg "_law_next" = some (.ref fN)) (kN : PySem.W.keepIn K (.ref fN) = true) (bN : Binds K fdN ["draw", "below"] []) : FnOk P w K mg base CX0 (k + 2) f fd ["draw", "high", "wide"] spPic := by
  refine F.ok scPic (fun vs H Q E h => ?_) (fun cdv A outer s H vs Q E hr h => ?_)
  · obtain ⟨d, g, c, high, wide, rfl, _⟩ := h
    rfl
  · obtain ⟨d, g, c, high, wide, rfl, D, h0, h1, w0, w1, q⟩ := h
    have hu := hu_of hr
    have nd := scPic.nd
    refine ⟨_, pss_cons (ps_asg (pe_tup (pa_cons (pe_ix ix_list (pe_lst (pa_cons pe_int (pa_cons pe_int (pa_cons pe_int pa_nil)))) (pe_call GN hr (by rfl) mN kN bN .nil pass0 (pa_cons (pv 0) (pa_cons pe_int pa_nil))) (fun _ _ => rfl)) (pa_cons (pe_lst pa_nil) pa_nil))) (pg_tup rfl (pgs_cons (pg_name (i := 3) nd rfl (.inr rfl)) (pgs_cons (pg_name (i := 4) nd rfl (.inl rfl)) pgs_nil))))
      (pss_cons (ps_for PassesOwn.never rfl (pi_range1 rfl T.range (pa_cons (pv 1) pa_nil)) (pg_name (i := 5) nd rfl (.inl rfl))
        (pss_cons (ps_set (i := 6) nd rfl (.inl rfl) (pe_join pe_str (pe_lc (own := [("c", 7)]) (g := gName 7) (tt := tYes) rfl nd (pi_range1 rfl T.range (pa_cons (pv 2) pa_nil)) (blkOk_by (N := ["draw", "high", "wide", "share", "rows", "r", "row", "c"]) (sc := defScope sPic) (by decide +kernel)) (fun _ _ _ _ _ => pg_name (i := 7) nd rfl (Or.inl rfl)) (fun _ _ _ _ _ => pts_nil)
            (fun _ _ _ _ _ => pe_ifExp (pt_cmpR op_eq (pe_call GN hr (by rfl) mN kN bN .nil pass0 (pa_cons (pv 0) (pa_cons (pv 3) pa_nil))) pe_int (nomark _)) pe_str pe_str))))
        (pss_one (ps_expr (pe_bm PySem.F.plainAttrs_list PySem.F.slot_list_append PySem.F.type_list_append mt_append (pv 4) (pa_cons (pe_ix ix_list (pe_lst (pa_cons (pv 6) (pa_cons (pv 6) (pa_cons (pv 6) (pa_cons (pe_op op_mul_str pe_str (pv 2)) (pa_cons (pe_op op_mul_str pe_str (pv 2)) pa_nil)))))) (pe_call GN hr (by rfl) mN kN bN .nil pass0 (pa_cons (pv 0) (pa_cons pe_int pa_nil))) (fun _ _ => rfl)) pa_nil))))))
      (pss_one (ps_ret (pe_callTy call_tuple_of (by rfl) T.tuple (by decide +kernel) (pa_cons (pv 4) pa_nil))))), ?_⟩
    refine ⟨by show 3 ≤ sizeLine; decide, fun l hl => ?_⟩
    have sl := same_upd (o := .lst [V.int 2, V.int 3, V.int 6]) hl
    refine ⟨.ref d, rfl, d, g, c, 3, rfl, D.same sl, by decide, by decide, fun n H1 hn0 hn1 D1 dn1 => ?_⟩
    obtain ⟨nld, nlg⟩ := D.new hl
    have hl1 := dn1 _ _ (upd_same (H := H) (a := l) (o := .lst [V.int 2, V.int 3, V.int 6])) nld nlg
    obtain ⟨sh, hsh0, hsh1, hat⟩ : ∃ sh : Int, 0 < sh ∧ sh < 1073741824 ∧ atI [V.int 2, V.int 3, V.int 6] n = some (.int sh) := by
      rcases (show n = 0 ∨ n = 1 ∨ n = 2 by omega) with x | x | x <;> rw [x]
      · exact ⟨2, by decide, by decide, rfl⟩
      · exact ⟨3, by decide, by decide, rfl⟩
      · exact ⟨6, by decide, by decide, rfl⟩
    have dnA : Dn d g H H1 := (Dn.same sl).trans dn1
    refine ⟨l, _, n, .int sh, rfl, rfl, SqL.of hl1, hat, ?_⟩
    refine ⟨by show 0 ≤ sizeLine; decide, fun l2 hl2 => ⟨by show 2 ≤ sizeLine; decide, fun t ht => ?_⟩⟩
    refine ⟨t, _, rfl, SqT.of upd_same, rfl, .int sh, _, rfl, .ref l2, [], rfl, rfl, ?_⟩
    have s2 := same_upd (o := .lst []) hl2
    have s3 := same_upd (o := .tup [V.int sh, V.ref l2]) ht
    have hl2' := s3 _ _ (upd_same (H := H1) (a := l2) (o := .lst []))
    have hl20 : H l2 = none := dnA.nn D1 hl2
    obtain ⟨n2d, n2g⟩ := D.new hl20
    have b1 : (-(2 ^ 62) : Int) ≤ (high : Int) ∧ (high : Int) < 2 ^ 62 := ⟨by omega, by omega⟩
    have b2 : (-(2 ^ 62) : Int) ≤ (wide : Int) ∧ (wide : Int) < 2 ^ 62 := ⟨by omega, by omega⟩
    refine ⟨.int high, rfl, high, rfl, b1.1, b1.2, for_range (lo := 0) (n := high) (fun i σ H2 => ∃ (y5 y6 : Option V) (rs : List (List Nat)), σ = [some (.ref d), some (.int high), some (.int wide), some (.int sh), some (.ref l2), y5, y6, none] ∧ rs.length = i ∧ (∀ l ∈ rs, RowR wide l) ∧ H2 l2 = some (.lst (rs.map rv)) ∧ Dr H2 d g c ∧ Dn d g H H2)
      ⟨none, none, [], rfl, rfl, (fun _ h => nomatch h), hl2', (D1.same s2).same s3, (dnA.trans (Dn.same s2)).trans (Dn.same s3)⟩ ?_ ?_⟩
    · rintro i σ H2 hi ⟨y5, y6, rs, rfl, hrl, hrow, h2l, D2, dn2⟩
      refine ⟨⟨_, rfl⟩, .int wide, rfl, wide, rfl, b2.1, b2.2, fun Dd hDd => lc_range (lo := 0) (n := wide) (fun j H3 => ∃ cs : List Nat, cs.length = j ∧ (∀ c ∈ cs, c = 35 ∨ c = 46) ∧ H3 Dd = some (.lst (cs.map fun c => rv [c])) ∧ H3 l2 = some (.lst (rs.map rv)) ∧ Dr H3 d g c ∧ Dn d g H H3) ?_ ?_ ?_⟩
      · have sD := same_upd (o := .lst []) hDd
        exact ⟨[], rfl, (fun _ h => nomatch h), upd_same, sD _ _ h2l, D2.same sD, dn2.trans (Dn.same sD)⟩
      · rintro j H3 hj ⟨cs, hcl, hcs, h3D, h3l, D3, dn3⟩
        obtain ⟨nDd, nDg⟩ := D2.new hDd
        refine ⟨rfl, .ref d, rfl, .int sh, rfl, d, g, c, sh, rfl, D3, hsh0, hsh1, fun m H4 hm0 hm1 D4 dn4 => ⟨rfl, _, rfl, ?_⟩⟩
        have h4D := dn4 _ _ h3D nDd nDg
        have h4l := dn4 _ _ h3l n2d n2g
        have nDl : Dd ≠ l2 := (ne_of_none h2l hDd).symm
        have fin : ∀ x : Nat, x = 35 ∨ x = 46 → ∃ acc, H4 Dd = some (.lst acc) ∧ acc.length < sizeLine ∧ ∃ cs : List Nat, cs.length = j + 1 ∧ (∀ c ∈ cs, c = 35 ∨ c = 46) ∧ (upd H4 Dd (.lst (acc ++ [rv [x]]))) Dd = some (.lst (cs.map fun c => rv [c])) ∧ (upd H4 Dd (.lst (acc ++ [rv [x]]))) l2 = some (.lst (rs.map rv)) ∧ Dr (upd H4 Dd (.lst (acc ++ [rv [x]]))) d g c ∧ Dn d g H (upd H4 Dd (.lst (acc ++ [rv [x]]))) := fun x hx => by
          refine ⟨_, h4D, ?_, cs ++ [x], ?_, ?_, ?_, ?_, ?_, ?_⟩
          · rw [List.length_map]
            exact small1000 (by omega)
          · rw [List.length_append, hcl]
            rfl
          · intro y hy
            rcases List.mem_append.mp hy with z | z
            · exact hcs y z
            · rw [List.mem_singleton.mp z]
              exact hx
          · rw [upd_same, List.map_append]
            rfl
          · rw [upd_ne nDl.symm]
            exact h4l
          · obtain ⟨⟨r, t', e1⟩, ⟨gs, e2, e3⟩, ⟨ks, e4, e5⟩, e6⟩ := id D4
            have nDc : Dd ≠ c := by
              obtain ⟨_, _, ⟨ks', e4', _⟩, _⟩ := id D2
              exact (ne_of_none e4' hDd).symm
            exact ⟨⟨r, t', by rw [upd_ne nDd.symm]; exact e1⟩, ⟨gs, by rw [upd_ne nDg.symm]; exact e2, e3⟩, ⟨ks, by rw [upd_ne nDc.symm]; exact e4, e5⟩, e6⟩
          · intro b o e hb1 hb2
            have hb3 : b ≠ Dd := ne_of_none (dn2 b o e hb1 hb2) hDd
            rw [upd_ne hb3]
            exact dn4 b o (dn3 b o e hb1 hb2) hb1 hb2
        cases decide (V.int m = V.int 0) with
        | true =>
          refine iteT ?_
          have e := fin 35 (.inl rfl)
          unfold rv at e
          rw [← s_hash] at e
          exact e
        | false =>
          refine iteF ?_
          have e := fin 46 (.inr rfl)
          unfold rv at e
          rw [← s_dot] at e
          exact e
      · rintro H3 ⟨cs, hcl, hcs, h3D, h3l, D3, dn3⟩
        have rowcs : RowR wide cs := ⟨hcl, hcs⟩
        refine ⟨"", Dd, cs.map fun c => S [c], rfl, rfl, .inl (SqL.of ?_), ?_, ?_⟩
        · rw [h3D, List.map_map]
          rfl
        · rw [lens_ones]
          show cs.length + _ * 0 ≤ 16777216
          omega
        · rw [join_ones]
          refine ⟨.ref l2, rfl, .inl ⟨rfl, _, SqL.of h3l⟩, .str (S cs), rfl, .str (S cs), rfl, .str (S cs), rfl, .int wide, rfl, ".", wide, rfl, rfl, ?_, .int wide, rfl, "#", wide, rfl, rfl, ?_, (by show 5 ≤ sizeLine; decide), fun l3 hl3 => ?_⟩
          · rw [s_dot]
            exact mul_ok 46 wide w0 w1
          · rw [s_hash]
            exact mul_ok 35 wide w0 w1
          · rw [s_dot, s_hash, mul_sign 46 wide w0, mul_sign 35 wide w0]
            have s5 := same_upd (o := .lst [V.str (S cs), V.str (S cs), V.str (S cs), V.str (S (List.replicate wide 46)), V.str (S (List.replicate wide 35))]) hl3
            refine ⟨.ref d, rfl, d, g, c, 5, rfl, D3.same s5, by decide, by decide, fun n5 H5 hn50 hn51 D5 dn5 => ?_⟩
            obtain ⟨n3d, n3g⟩ := D3.new hl3
            have h5l3 := dn5 _ _ (upd_same (H := H3) (a := l3)) n3d n3g
            have h5l2 := dn5 _ _ (s5 _ _ h3l) n2d n2g
            obtain ⟨lr, hlr, hat5⟩ : ∃ lr : List Nat, RowR wide lr ∧ atI [V.str (S cs), V.str (S cs), V.str (S cs), V.str (S (List.replicate wide 46)), V.str (S (List.replicate wide 35))] n5 = some (rv lr) := by
              rcases (show n5 = 0 ∨ n5 = 1 ∨ n5 = 2 ∨ n5 = 3 ∨ n5 = 4 by omega) with x | x | x | x | x <;> rw [x]
              · exact ⟨cs, rowcs, rfl⟩
              · exact ⟨cs, rowcs, rfl⟩
              · exact ⟨cs, rowcs, rfl⟩
              · exact ⟨_, row_rep 46 wide (.inr rfl), rfl⟩
              · exact ⟨_, row_rep 35 wide (.inl rfl), rfl⟩
            refine ⟨l3, _, n5, rv lr, rfl, rfl, SqL.of h5l3, hat5, l2, _, _, rfl, rfl, h5l2, ?_, ?_⟩
            · rw [List.length_map]
              exact small1000 (by omega)
            · refine ⟨_, _, rs ++ [lr], rfl, ?_, ?_, ?_, ?_, ?_⟩
              · rw [List.length_append, hrl]
                rfl
              · intro y hy
                rcases List.mem_append.mp hy with z | z
                · exact hrow y z
                · rw [List.mem_singleton.mp z]
                  exact hlr
              · rw [upd_same, List.map_append]
                rfl
              · obtain ⟨⟨r, t', e1⟩, ⟨gs, e2, e3⟩, ⟨ks, e4, e5⟩, e6⟩ := id D5
                have n2c : l2 ≠ c := by
                  obtain ⟨_, _, ⟨ks', e4', _⟩, _⟩ := id D
                  exact (ne_of_none e4' hl20).symm
                exact ⟨⟨r, t', by rw [upd_ne n2d.symm]; exact e1⟩, ⟨gs, by rw [upd_ne n2g.symm]; exact e2, e3⟩, ⟨ks, by rw [upd_ne n2c.symm]; exact e4, e5⟩, e6⟩
              · intro b o e hb1 hb2
                have hb3 : b ≠ l2 := ne_of_none e hl20
                rw [upd_ne hb3]
                exact dn5 b o (s5 b o (dn3 b o e hb1 hb2)) hb1 hb2
    · rintro σ H2 ⟨y5, y6, rs, rfl, hrl, hrow, h2l, D2, dn2⟩
      refine ⟨.ref l2, rfl, l2, _, rfl, .inl ⟨SqL.of h2l, fun p hp => ?_⟩⟩
      have sp := same_upd (o := .tup (rs.map rv)) hp
      exact q p rs _ ⟨hrl, hrow, h0, h1, w0, w1⟩ (dn2.nn D2 hp) upd_same (D2.same sp) (dn2.trans (Dn.same sp))
end
end Dt
namespace Dt
open PySem PySem.Spec PyProof.Rows L2 L2X
open SX (S)
/-! ### _law_sized, _law_pick -/
abbrev sSized : Stmt := topS 50
theorem scSized : FnScope ["draw", "high", "wide", "way"] ["draw"] (defScope sSized) := ⟨rfl, rfl, rfl, by decide +kernel, rfl, by decide +kernel, by decide +kernel⟩
def spSized : Sp := fun vs H Q _ => ∃ (d g c : Addr), vs = [.ref d] ∧ Dr H d g c ∧ ∀ (high wide : Nat) (a : Addr) (rs : List (List Nat)) (H' : Hp), PicR high wide rs → H a = none → H' a = some (.tup (rs.map rv)) → Dr H' d g c → Dn d g H H' → Q (.ref a) H'
abbrev sPick : Stmt := topS 48
theorem scPick : FnScope ["draw", "some"] ["draw", "some"] (defScope sPick) := ⟨rfl, rfl, rfl, by decide +kernel, rfl, by decide +kernel, by decide +kernel⟩
def spPick (K : PySem.W.Frag) : Sp := fun vs H Q _ => ∃ (d g c l : Addr) (xs : List V), vs = [.ref d, .ref l] ∧ Dr H d g c ∧ H l = some (.lst xs) ∧ l ≠ g ∧ 0 < xs.length ∧ xs.length ≤ 1000 ∧ ∀ (n : Nat) (x : V) (H' : Hp), xs[n]? = some x → Dr H' d g c → Dn d g H H' → Q x H'
section
variable {P : Program} {w : World} {K : PySem.W.Frag} {mg : Str → Option Value} {base : Heap}
theorem ok_pick {f fN : Addr} {fd fdN : FuncData} {k : Nat} (F : Fun K "_law_pick" "_law_pick" sPick f fd) (T : Tx mg) (GN : FnOk P w K mg base CX0 (k + 1) fN fdN ["draw", "below"] spNext) (mN : mg "_law_next" = some (.ref fN)) (kN : PySem.W.keepIn K (.ref fN) = true) (bN : Binds K fdN ["draw", "below"] []) : FnOk P w K mg base CX0 (k + 2) f fd ["draw", "some"] (spPick K) := by
  refine F.ok scPick (fun vs H Q E h => ?_) (fun cdv A outer s H vs Q E hr h => ?_)
  · obtain ⟨d, g, c, l, xs, rfl, _⟩ := h
    rfl
  · obtain ⟨d, g, c, l, xs, rfl, D, hl, nlg, x0, x1, q⟩ := h
    have hu := hu_of hr
    have nd := scPick.nd
    have nld : l ≠ d := by
      obtain ⟨⟨r, t, e⟩, _⟩ := D
      exact ne_of hl e (by intro z; cases z)
    refine ⟨_, pss_one (ps_ret (pe_ix ix_list (pv 1) (pe_call GN hr (by rfl) mN kN bN .nil pass0 (pa_cons (pv 0) (pa_cons (pe_callB call_len_seq (by rfl) T.len PySem.boot_len (pa_cons (pv 1) pa_nil)) pa_nil))) (fun _ _ => rfl))), ?_⟩
    refine ⟨.ref l, rfl, .ref d, rfl, .ref l, rfl, l, xs, rfl, .inl (SqL.of hl), d, g, c, (xs.length : Int), rfl, D, by omega, by omega, fun n H1 hn0 hn1 D1 dn1 => ?_⟩
    obtain ⟨j, rfl⟩ := Int.eq_ofNat_of_zero_le hn0
    have hj : j < xs.length := by omega
    have hx : xs[j]? = some xs[j] := List.getElem?_eq_getElem hj
    exact ⟨l, xs, (j : Int), xs[j], rfl, rfl, SqL.of (dn1 _ _ hl nld nlg), atI_nat hx, q j _ H1 hx D1 dn1⟩
theorem ok_sized {f fN fP : Addr} {fd fdN fdP : FuncData} {k : Nat} (F : Fun K "_law_sized" "_law_sized" sSized f fd) (T : Tx mg) (GN : FnOk P w K mg base CX0 (k + 1) fN fdN ["draw", "below"] spNext) (mN : mg "_law_next" = some (.ref fN)) (kN : PySem.W.keepIn K (.ref fN) = true) (bN : Binds K fdN ["draw", "below"] [])
    (GP : FnOk P w K mg base CX0 (k + 2) fP fdP ["draw", "high", "wide"] spPic) (mP : mg "_law_picture" = some (.ref fP)) (kP : PySem.W.keepIn K (.ref fP) = true) (bP : Binds K fdP ["draw", "high", "wide"] []) : FnOk P w K mg base CX0 (k + 3) f fd ["draw"] spSized := by
  refine F.ok scSized (fun vs H Q E h => ?_) (fun cdv A outer s H vs Q E hr h => ?_)
  · obtain ⟨d, g, c, rfl, _⟩ := h
    rfl
  · obtain ⟨d, g, c, rfl, D, q⟩ := h
    have hu := hu_of hr
    have nd := scSized.nd
    have hr1 : Room (k + 1) _ := hr.mono (by omega)
    refine ⟨_, pss_cons (ps_par (i := 1) (j := 2) (by rfl) nd rfl rfl (by decide) rfl rfl (pa_cons
          (pe_lst (pa_cons (pe_op op_add pe_int (pe_call GN hr1 (by rfl) mN kN bN .nil pass0 (pa_cons (pv 0) (pa_cons pe_int pa_nil)))) (pa_cons (pe_op op_add pe_int (pe_call GN hr1 (by rfl) mN kN bN .nil pass0 (pa_cons (pv 0) (pa_cons pe_int pa_nil)))) pa_nil))) (pa_cons
          (pe_lst (pa_cons (pe_op op_add pe_int (pe_call GN hr1 (by rfl) mN kN bN .nil pass0 (pa_cons (pv 0) (pa_cons pe_int pa_nil)))) (pa_cons (pe_op op_add pe_int (pe_call GN hr1 (by rfl) mN kN bN .nil pass0 (pa_cons (pv 0) (pa_cons pe_int pa_nil)))) pa_nil))) pa_nil)) (by rfl))
      (pss_cons (ps_set (i := 3) nd rfl (.inl rfl) (pe_call GN hr1 (by rfl) mN kN bN .nil pass0 (pa_cons (pv 0) (pa_cons pe_int pa_nil))))
      (pss_one (ps_ret (pe_call GP hr (by rfl) mP kP bP .nil pass0 (pa_cons (pv 0) (pa_cons
        (pe_ix ix_list (pv 1) (pe_callTy call_int1 (by rfl) T.int (by decide +kernel) (pa_cons (pe_cmpR op_eq (pv 3) pe_int (nomark _)) pa_nil)) (fun _ _ => rfl)) (pa_cons
        (pe_ix ix_list (pv 2) (pe_callTy call_int1 (by rfl) T.int (by decide +kernel) (pa_cons (pe_cmpR op_eq (pv 3) pe_int (nomark _)) pa_nil)) (fun _ _ => rfl)) pa_nil))))))), ?_⟩
    refine ⟨.ref d, rfl, d, g, c, 6, rfl, D, by decide, by decide, fun a1 H1 a10 a11 D1 dn1 => ⟨1, a1, rfl, rfl, .ref d, rfl, d, g, c, 60, rfl, D1, by decide, by decide, fun a2 H2 a20 a21 D2 dn2 => ⟨1, a2, rfl, rfl, by show 2 ≤ sizeLine; decide, fun l1 hl1 => ?_⟩⟩⟩
    have s1 := same_upd (o := .lst [V.int (1 + a1), V.int (1 + a2)]) hl1
    refine ⟨.ref d, rfl, d, g, c, 8, rfl, D2.same s1, by decide, by decide, fun b1 H3 b10 b11 D3 dn3 => ⟨1, b1, rfl, rfl, .ref d, rfl, d, g, c, 120, rfl, D3, by decide, by decide, fun b2 H4 b20 b21 D4 dn4 => ⟨1, b2, rfl, rfl, by show 2 ≤ sizeLine; decide, fun l2 hl2 => ?_⟩⟩⟩
    have s2 := same_upd (o := .lst [V.int (1 + b1), V.int (1 + b2)]) hl2
    obtain ⟨n1d, n1g⟩ := D2.new hl1
    obtain ⟨n2d, n2g⟩ := D4.new hl2
    have g1 := dn4 _ _ (dn3 _ _ (upd_same (H := H2) (a := l1) (o := .lst [V.int (1 + a1), V.int (1 + a2)])) n1d n1g) n1d n1g
    refine ⟨.ref l1, .ref l2, rfl, .ref d, rfl, d, g, c, 8, rfl, D4.same s2, by decide, by decide, fun wy H5 wy0 wy1 D5 dn5 => ?_⟩
    have g1' : SqL K H5 l1 [V.int (1 + a1), V.int (1 + a2)] := SqL.of (dn5 _ _ (s2 _ _ g1) n1d n1g)
    have g2' : SqL K H5 l2 [V.int (1 + b1), V.int (1 + b2)] := SqL.of (dn5 _ _ upd_same n2d n2g)
    obtain ⟨hi, hhi0, hhi1, hat1⟩ : ∃ hi : Nat, 1 ≤ hi ∧ hi ≤ 60 ∧ atI [V.int (1 + a1), V.int (1 + a2)] (if decide (V.int wy = V.int 0) then 1 else 0) = some (.int hi) := by
      cases decide (V.int wy = V.int 0) with
      | true => exact ⟨(1 + a2).toNat, by omega, by omega, by show some (V.int (1 + a2)) = _; rw [Int.toNat_of_nonneg (by omega)]⟩
      | false => exact ⟨(1 + a1).toNat, by omega, by omega, by show some (V.int (1 + a1)) = _; rw [Int.toNat_of_nonneg (by omega)]⟩
    obtain ⟨wi, hwi0, hwi1, hat2⟩ : ∃ wi : Nat, 1 ≤ wi ∧ wi ≤ 120 ∧ atI [V.int (1 + b1), V.int (1 + b2)] (if decide (V.int wy = V.int 1) then 1 else 0) = some (.int wi) := by
      cases decide (V.int wy = V.int 1) with
      | true => exact ⟨(1 + b2).toNat, by omega, by omega, by show some (V.int (1 + b2)) = _; rw [Int.toNat_of_nonneg (by omega)]⟩
      | false => exact ⟨(1 + b1).toNat, by omega, by omega, by show some (V.int (1 + b1)) = _; rw [Int.toNat_of_nonneg (by omega)]⟩
    have dnA : Dn d g H H5 := ((((dn1.trans dn2).trans (Dn.same s1)).trans (dn3.trans dn4)).trans (Dn.same s2)).trans dn5
    refine ⟨.ref d, rfl, .ref l1, rfl, .int wy, rfl, rfl, .inr ⟨_, rfl, l1, _, _, .int hi, rfl, rfl, g1', hat1, ?_⟩⟩
    refine ⟨.ref l2, rfl, .int wy, rfl, rfl, .inr ⟨_, rfl, l2, _, _, .int wi, rfl, rfl, g2', hat2, ?_⟩⟩
    refine ⟨d, g, c, hi, wi, rfl, D5, hhi0, hhi1, hwi0, hwi1, fun a rs H6 pr na ha D6 dn6 => q hi wi a rs H6 pr (dnA.nn D5 na) ha D6 (dnA.trans dn6)⟩
end
end Dt
namespace Dt
open PySem PySem.Spec PyProof.Rows L2 L2X
open SX (S)
/-! ### what is a picture -/
def rowOk : V → Bool
  | .str x => decide (1 ≤ x.length) && decide (x.length ≤ 120) && decide (Txt.count x "#" + Txt.count x "." = (x.length : Int))
  | _ => false
theorem rowOk_str (x : Str) : rowOk (.str x) = (decide (1 ≤ x.length) && decide (x.length ≤ 120) && decide (Txt.count x "#" + Txt.count x "." = (x.length : Int))) := rfl
def lenV : V → Int
  | .str x => x.length
  | _ => 0
def picOk (xs : List V) : Bool := decide (1 ≤ xs.length) && decide (xs.length ≤ 60) && xs.all rowOk && xs.all fun y => decide (lenV y = lenV (xs.headD .non))
/-- a thing of a known kind -/
def Kn (K : PySem.W.Frag) (H : Hp) (x : V) : Prop := (∃ T, TyB K H x T ∧ tyOk T = true) ∧ ∀ z, x = .str z → z.length ≤ sizeLine
structure Tp (mg : Str → Option Value) : Prop where
  typ : mg "type" = none
  str : mg "str" = none
  all : mg "all" = none
  mr : ∃ t, mg "MOST_ROWS" = some (.int 60 t)
  mc : ∃ t, mg "MOST_COLUMNS" = some (.int 120 t)
abbrev sIsText : Stmt := topS 17
theorem scIsText : FnScope ["thing"] ["thing"] (defScope sIsText) := ⟨rfl, rfl, rfl, by decide +kernel, rfl, by decide +kernel, by decide +kernel⟩
def isStr : V → Bool
  | .str _ => true
  | _ => false
def spIsText (K : PySem.W.Frag) : Sp := fun vs H Q _ => ∃ x, vs = [x] ∧ Kn K H x ∧ Q (.bl (isStr x)) H
abbrev sIsRow : Stmt := topS 25
theorem scIsRow : FnScope ["thing"] ["thing"] (defScope sIsRow) := ⟨rfl, rfl, rfl, by decide +kernel, rfl, by decide +kernel, by decide +kernel⟩
def spIsRow (K : PySem.W.Frag) : Sp := fun vs H Q _ => ∃ x, vs = [x] ∧ Kn K H x ∧ Q (.bl (rowOk x)) H
theorem isStr_ty {K : PySem.W.Frag} {H : Hp} {x : V} {T : String} (t : TyB K H x T) : decide (T = "str") = isStr x := by
  cases t <;> rfl
section
variable {P : Program} {w : World} {K : PySem.W.Frag} {mg : Str → Option Value} {base : Heap}
theorem ok_isText {f : Addr} {fd : FuncData} {k : Nat} (F : Fun K "is_text" "is_text" sIsText f fd) (T : Tp mg) : FnOk P w K mg base CX0 (k + 1) f fd ["thing"] (spIsText K) := by
  refine F.ok scIsText (fun vs H Q E h => ?_) (fun cdv A outer s H vs Q E hr h => ?_)
  · obtain ⟨x, rfl, _⟩ := h
    rfl
  · obtain ⟨x, rfl, ⟨⟨Ty, ht, ok⟩, _⟩, q⟩ := h
    refine ⟨_, pss_one (ps_ret (pe_cmpR op_eq_ty (pe_callTy call_type1 (by rfl) T.typ (by decide +kernel) (pa_cons (pv 0) pa_nil)) (pe_bltn (v := .ty "str") (u := .type "str") (by rfl) T.str (by decide +kernel) rfl) (nomark _))), ?_⟩
    refine ⟨x, rfl, x, Ty, rfl, ht, Ty, "str", rfl, rfl, ok, rfl, ?_⟩
    have e : id (decide (Ty = "str")) = isStr x := isStr_ty ht
    rw [e]
    exact q
theorem ok_isRow {f fT : Addr} {fd fdT : FuncData} {k : Nat} (F : Fun K "_is_row" "_is_row" sIsRow f fd) (T : Tp mg) (X : Tx mg) (GT : FnOk P w K mg base CX0 (k + 1) fT fdT ["thing"] (spIsText K)) (mT : mg "is_text" = some (.ref fT)) (kT : PySem.W.keepIn K (.ref fT) = true) (bT : Binds K fdT ["thing"] []) : FnOk P w K mg base CX0 (k + 2) f fd ["thing"] (spIsRow K) := by
  refine F.ok scIsRow (fun vs H Q E h => ?_) (fun cdv A outer s H vs Q E hr h => ?_)
  · obtain ⟨x, rfl, _⟩ := h
    rfl
  · obtain ⟨x, rfl, kn, q⟩ := h
    obtain ⟨t, hmc⟩ := T.mc
    refine ⟨_, pss_cons (ps_if (PW.pt (pw_or (pt_not (pt_val (pe_call GT hr (by rfl) mT kT bT .nil pass0 (pa_cons (pv 0) pa_nil)))) (pw_or1 (pt_not (pt_chain op_le op_le pe_int (pe_callB call_len_str (by rfl) X.len PySem.boot_len (pa_cons (pv 0) pa_nil)) (pe_glob (v := .int 120) (by rfl) hmc ⟨_, rfl⟩))))))
        (pss_one (ps_ret pe_bl)) pss_nil)
      (pss_one (ps_ret (pe_cmpR op_eq (pe_op op_add (pe_m1 PySem.F.slot_str_count PySem.F.type_str_count mt_count (pv 0) pe_str) (pe_m1 PySem.F.slot_str_count PySem.F.type_str_count mt_count (pv 0) pe_str)) (pe_callB call_len_str (by rfl) X.len PySem.boot_len (pa_cons (pv 0) pa_nil)) (nomark _)))), ?_⟩
    refine ⟨x, rfl, x, rfl, kn, _, rfl, ?_⟩
    cases x with
    | str z =>
      have hz := kn.2 z rfl
      refine iteF ?_
      refine ⟨.str z, rfl, z, rfl, hz, 1, _, rfl, rfl, _, rfl, ?_⟩
      refine ite2 (fun e => ?_) (fun e => ?_)
      · refine ⟨_, 120, rfl, rfl, _, rfl, ite2 (fun e2 => ?_) (fun e2 => ?_)⟩
        · have e3 : ¬ z.length ≤ 120 := fun le => by
            have : decide ((z.length : Int) ≤ 120) = true := decide_eq_true (by omega)
            rw [this] at e2
            cases e2
          have e4 : rowOk (.str z) = false := by
            rw [rowOk_str, decide_eq_false e3, Bool.and_false, Bool.false_and]
          rw [e4] at q
          exact q
        · have e3 : z.length ≤ 120 := by
            have h1 : ¬ ((!decide ((z.length : Int) ≤ 120)) = true) := e2
            have h2 : decide ((z.length : Int) ≤ 120) = true := by
              cases hh : decide ((z.length : Int) ≤ 120) with
              | true => rfl
              | false =>
                rw [hh] at h1
                exact absurd rfl h1
            have := of_decide_eq_true h2
            omega
          have e1 : 1 ≤ z.length := by
            have := of_decide_eq_true e
            omega
          refine ⟨.str z, rfl, ⟨_, rfl⟩, z, "#", rfl, rfl, .str z, rfl, ⟨_, rfl⟩, z, ".", rfl, rfl, _, _, rfl, rfl, .str z, rfl, z, rfl, hz, rfl, ?_⟩
          have e4 : rowOk (.str z) = decide (V.int (Txt.count z "#" + Txt.count z ".") = V.int (z.length : Int)) := by
            rw [rowOk_str, decide_eq_true e1, decide_eq_true e3, Bool.true_and, Bool.true_and]
            exact Bool.eq_iff_iff.mpr ⟨fun h => decide_eq_true (congrArg V.int (of_decide_eq_true h)), fun h => decide_eq_true (V.int.inj (of_decide_eq_true h))⟩
          rw [e4] at q
          exact q
      · have e1 : ¬ 1 ≤ z.length := fun le => e (decide_eq_true (by omega))
        have e4 : rowOk (.str z) = false := by
          rw [rowOk_str, decide_eq_false e1, Bool.false_and, Bool.false_and]
        rw [e4] at q
        exact ⟨_, rfl, q⟩
    | _ => exact iteT (iteT q)
/-! ### is_picture -/
abbrev sIsPic : Stmt := topS 24
theorem scIsPic : FnScope ["thing", "row"] ["thing"] (defScope sIsPic) := ⟨rfl, rfl, rfl, by decide +kernel, rfl, by decide +kernel, by decide +kernel⟩
/-- a thing as is_picture may be asked: no tuple, or a tuple whose items are of known kinds -/
def Asked (K : PySem.W.Frag) (H : Hp) (x : V) (b : Bool) : Prop :=
  (∃ T, TyB K H x T ∧ tyOk T = true ∧ T ≠ "tuple" ∧ b = false) ∨ ∃ a xs, x = .ref a ∧ SqT K H a xs ∧ (xs.length ≤ 60 → ∀ y ∈ xs, Kn K H y) ∧ b = picOk xs
def spIsPic (K : PySem.W.Frag) : Sp := fun vs H Q _ => ∃ x b, vs = [x] ∧ Asked K H x b ∧ ∀ H', Same H H' → Q (.bl b) H'
theorem sameT {K : PySem.W.Frag} {H H' : Hp} {a : Addr} {xs : List V} (e : Same H H') (h : SqT K H a xs) : SqT K H' a xs := by
  rcases h with (h | ⟨o, h⟩) | h
  · exact .inl (.inl (e _ _ h))
  · exact .inl (.inr ⟨o, e _ _ h⟩)
  · exact .inr h
theorem Kn.same {H H' : Hp} {x : V} (h : Kn K H x) (s : Same H H') : Kn K H' x := by
  obtain ⟨⟨T, t, ok⟩, hz⟩ := h
  refine ⟨⟨T, ?_, ok⟩, hz⟩
  cases t with
  | non => exact .non
  | bl b => exact .bl b
  | int i => exact .int i
  | str x => exact .str x
  | byt b => exact .byt b
  | lst h => exact .lst (s.seq h)
  | tup h => exact .tup (sameT s h)
  | dK h => exact .dK (s _ _ h)
theorem iteE {c : Bool} {A B : Prop} (e : c = false) (h : B) : if c = true then A else B := by
  rw [e]
  exact iteF h
theorem iteY {c : Bool} {A B : Prop} (e : c = true) (h : A) : if c = true then A else B := by
  rw [e]
  exact iteT h
theorem take_snoc {α : Type} {xs : List α} {i : Nat} {x : α} (h : xs[i]? = some x) : xs.take (i + 1) = xs.take i ++ [x] := by
  rw [List.take_add_one, h]
  rfl
theorem all_map_id {α : Type} (f : α → Bool) : ∀ xs : List α, (xs.map f).all id = xs.all f
  | [] => rfl
  | x :: r => by
    show (id (f x) && (r.map f).all id) = (f x && r.all f)
    rw [all_map_id f r]
    rfl
theorem bls {α : Type} (f : α → Bool) (xs : List α) : xs.map (fun y => V.bl (f y)) = (xs.map f).map V.bl := by
  rw [List.map_map]
  rfl
theorem ok_isPic {f fR : Addr} {fd fdR : FuncData} {k : Nat} (F : Fun K "is_picture" "is_picture" sIsPic f fd) (T : Tp mg) (X : Tx mg) (GR : FnOk P w K mg base CX0 (k + 1) fR fdR ["thing"] (spIsRow K)) (mR : mg "_is_row" = some (.ref fR)) (kR : PySem.W.keepIn K (.ref fR) = true) (bR : Binds K fdR ["thing"] []) : FnOk P w K mg base CX0 (k + 2) f fd ["thing"] (spIsPic K) := by
  refine F.ok scIsPic (fun vs H Q E h => ?_) (fun cdv A outer s H vs Q E hr h => ?_)
  · obtain ⟨x, b, rfl, _⟩ := h
    rfl
  · obtain ⟨x, b, rfl, ask, q⟩ := h
    obtain ⟨t, hmr⟩ := T.mr
    have nd := scIsPic.nd
    refine ⟨_, pss_cons (ps_if (PW.pt (pw_or (pt_cmpR op_ne_ty (pe_callTy call_type1 (by rfl) T.typ (by decide +kernel) (pa_cons (pv 0) pa_nil)) (pe_bltn (v := .ty "tuple") (u := .type "tuple") (by rfl) X.tuple (by decide +kernel) rfl) (nomark _)) (pw_or1 (pt_not (pt_chain op_le op_le pe_int (pe_callB call_len_seq (by rfl) X.len PySem.boot_len (pa_cons (pv 0) pa_nil)) (pe_glob (v := .int 60) (by rfl) hmr ⟨_, rfl⟩))))))
        (pss_one (ps_ret pe_bl)) pss_nil)
      (pss_cons (ps_if (pt_not (pt_val (pe_callB (cr_all rfl) (by rfl) T.all (by decide +kernel) (pa_cons (pe_lc (own := [("row", 1)]) (g := gName 1) (tt := tYes) rfl nd (pi_tup (pv 0)) (blkOk_by (N := ["thing", "row"]) (sc := defScope sIsPic) (by decide +kernel)) (fun _ _ _ _ _ => pg_name (i := 1) nd rfl (Or.inl rfl)) (fun _ _ _ _ _ => pts_nil)
            (fun _ _ _ _ _ => pe_call GR hr (by rfl) mR kR bR .nil pass0 (pa_cons (pv 1) pa_nil))) pa_nil)))) (pss_one (ps_ret pe_bl)) pss_nil)
      (pss_one (ps_ret (pe_callB (cr_all rfl) (by rfl) T.all (by decide +kernel) (pa_cons (pe_lc (own := [("row", 1)]) (g := gName 1) (tt := tYes) rfl nd (pi_tup (pv 0)) (blkOk_by (N := ["thing", "row"]) (sc := defScope sIsPic) (by decide +kernel)) (fun _ _ _ _ _ => pg_name (i := 1) nd rfl (Or.inl rfl)) (fun _ _ _ _ _ => pts_nil)
            (fun _ _ _ _ _ => pe_cmpR op_eq (pe_callB call_len_str (by rfl) X.len PySem.boot_len (pa_cons (pv 1) pa_nil)) (pe_callB call_len_str (by rfl) X.len PySem.boot_len (pa_cons (pe_ix (r := rIxT K) ix_tup (pv 0) pe_int (fun _ _ => rfl)) pa_nil)) (nomark _))) pa_nil))))), ?_⟩
    rcases ask with ⟨Ty, ht, ok, ne, rfl⟩ | ⟨a, xs, rfl, hx, kn, rfl⟩
    · refine ⟨x, rfl, x, Ty, rfl, ht, Ty, "tuple", rfl, rfl, ok, rfl, _, rfl, ?_⟩
      have e : not (decide (Ty = "tuple")) = true := by rw [decide_eq_false ne]; rfl
      exact iteY e (q H (Same.refl H))
    · refine ⟨.ref a, rfl, .ref a, "tuple", rfl, .tup hx, "tuple", "tuple", rfl, rfl, rfl, rfl, _, rfl, iteE (by decide) ?_⟩
      refine ⟨.ref a, rfl, a, xs, rfl, .inr hx, 1, _, rfl, rfl, _, rfl, ite2 (fun e => ?_) (fun e => ?_)⟩
      · have e1 : 1 ≤ xs.length := by
          have := of_decide_eq_true e
          omega
        refine ⟨_, 60, rfl, rfl, _, rfl, ite2 (fun e2 => ?_) (fun e2 => ?_)⟩
        · have e3 : ¬ xs.length ≤ 60 := fun le => by
            have : decide ((xs.length : Int) ≤ 60) = true := decide_eq_true (by omega)
            rw [this] at e2
            cases e2
          have z : picOk xs = false := by
            unfold picOk
            rw [decide_eq_false e3, Bool.and_false, Bool.false_and, Bool.false_and]
          rw [z] at q
          exact q H (Same.refl H)
        · have e3 : xs.length ≤ 60 := by
            have h1 : ¬ ((!decide ((xs.length : Int) ≤ 60)) = true) := e2
            have h2 : decide ((xs.length : Int) ≤ 60) = true := by
              cases hh : decide ((xs.length : Int) ≤ 60) with
              | true => rfl
              | false =>
                rw [hh] at h1
                exact absurd rfl h1
            have := of_decide_eq_true h2
            omega
          have kn' := kn e3
          refine ⟨.ref a, rfl, a, rfl, ⟨_, hx⟩, fun Dd hDd => lc_tup (K := K) (a := a) (xs := xs) (fun i H2 => Same H H2 ∧ H2 Dd = some (.lst ((xs.take i).map fun y => V.bl (rowOk y)))) ⟨same_upd hDd, upd_same⟩ (fun i H2 _ z => sameT z.1 hx) ?_ ?_⟩
          · rintro i y H2 hi ⟨sm, h2⟩
            have hm : y ∈ xs := List.mem_of_getElem? hi
            refine ⟨rfl, y, rfl, y, rfl, (kn' y hm).same sm, _, h2, ?_, ?_, ?_⟩
            · rw [List.length_map, List.length_take]
              exact small1000 (by omega)
            · exact fun b o e => by
                rw [upd_ne (ne_of_none e hDd)]
                exact sm _ _ e
            · rw [upd_same, take_snoc hi, List.map_append]
              rfl
          · rintro H2 ⟨sm, h2⟩
            rw [List.take_length, bls] at h2
            refine ⟨Dd, xs.map rowOk, rfl, SqL.of h2, _, rfl, ?_⟩
            rw [all_map_id]
            cases eall : xs.all rowOk with
            | false =>
              have z : picOk xs = false := by
                unfold picOk
                rw [eall, Bool.and_false, Bool.false_and]
              rw [z] at q
              exact q H2 sm
            | true =>
              have hx2 : SqT K H2 a xs := sameT sm hx
              obtain ⟨x0, r0, rfl⟩ : ∃ x0 r0, xs = x0 :: r0 := by
                cases xs with
                | nil => exact absurd e1 (by decide)
                | cons x0 r0 => exact ⟨x0, r0, rfl⟩
              have isS : ∀ y ∈ x0 :: r0, ∃ z : Str, y = .str z ∧ z.length ≤ sizeLine := fun y hy => by
                have h := List.all_eq_true.mp eall y hy
                cases y with
                | str z => exact ⟨z, rfl, (kn' _ hy).2 z rfl⟩
                | _ => cases h
              obtain ⟨z0, ez0, hz0⟩ := isS x0 List.mem_cons_self
              refine ⟨.ref a, rfl, a, rfl, ⟨_, hx2⟩, fun D2 hD2 => lc_tup (K := K) (a := a) (xs := x0 :: r0) (fun i H3 => Same H2 H3 ∧ H3 D2 = some (.lst (((x0 :: r0).take i).map fun y => V.bl (decide (lenV y = lenV x0))))) ⟨same_upd hD2, upd_same⟩ (fun i H3 _ z => sameT z.1 hx2) ?_ ?_⟩
              · rintro i y H3 hi ⟨sm3, h3⟩
                have hm : y ∈ x0 :: r0 := List.mem_of_getElem? hi
                obtain ⟨zy, ey, hzy⟩ := isS y hm
                refine ⟨rfl, y, rfl, zy, by rw [ey], hzy, .ref a, rfl, a, x0 :: r0, 0, x0, rfl, rfl, sameT sm3 hx2, atI_nat (j := 0) rfl, z0, by rw [ez0], hz0, rfl, _, h3, ?_, ?_, ?_⟩
                · rw [List.length_map, List.length_take]
                  exact small1000 (by omega)
                · exact fun b o e => by
                    rw [upd_ne (ne_of_none e hD2)]
                    exact sm3 _ _ e
                · rw [upd_same, take_snoc hi, List.map_append]
                  have e5 : decide (V.int (zy.length : Int) = V.int (z0.length : Int)) = decide (lenV y = lenV x0) := by
                    rw [ey, ez0]
                    exact Bool.eq_iff_iff.mpr ⟨fun h => decide_eq_true (V.int.inj (of_decide_eq_true h)), fun h => decide_eq_true (congrArg V.int (of_decide_eq_true h))⟩
                  rw [e5]
                  rfl
              · rintro H3 ⟨sm3, h3⟩
                rw [List.take_length, bls] at h3
                refine ⟨D2, _, rfl, SqL.of h3, ?_⟩
                rw [all_map_id]
                have z : picOk (x0 :: r0) = (x0 :: r0).all fun y => decide (lenV y = lenV x0) := by
                  unfold picOk
                  rw [eall, decide_eq_true e1, decide_eq_true e3]
                  rfl
                rw [z] at q
                exact q H3 (sm.trans sm3)
      · have e1 : ¬ 1 ≤ xs.length := fun le => e (decide_eq_true (by omega))
        have z : picOk xs = false := by
          unfold picOk
          rw [decide_eq_false e1, Bool.false_and, Bool.false_and, Bool.false_and]
        rw [z] at q
        exact ⟨_, rfl, q H (Same.refl H)⟩
end
end Dt
namespace Dt
open PySem PySem.Spec PyProof.Rows L2 L2X
open SX (S)
/-! ### refusals -/
/-- the class NoPicture, as the top has made it, at C -/
structure Tn (K : PySem.W.Frag) (mg : Str → Option Value) (C : Addr) : Prop where
  g : mg "NoPicture" = some (.ref C)
  x : PySem.W.excIn K C [.type "ValueError", .type "Exception", .type "BaseException", .type "object"] "ValueError.__new__" = true
  k : PySem.W.keepIn K (.ref C) = true
  b : PySem.W.subIn K (.ref C) (.type "BaseException") = some true
  t : PySem.W.typeIn K (.ref C) = some (.type "type")
abbrev sWant : Stmt := topS 26
theorem scWant : FnScope ["thing"] ["thing"] (defScope sWant) := ⟨rfl, rfl, rfl, by decide +kernel, rfl, by decide +kernel, by decide +kernel⟩
def spWant (K : PySem.W.Frag) (C : Addr) : Sp := fun vs H Q E => ∃ x b, vs = [x] ∧ Asked K H x b ∧ (b = true → ∀ H', Same H H' → Q .non H') ∧ (b = false → ∀ H', Same H H' → E (.ref C) none H')
section
variable {P : Program} {w : World} {K : PySem.W.Frag} {mg : Str → Option Value} {base : Heap} {C : Addr}
theorem ok_want {f fP : Addr} {fd fdP : FuncData} {k : Nat} (F : Fun K "want_picture" "want_picture" sWant f fd) (N : Tn K mg C) (GP : FnOk P w K mg base CX0 (k + 1) fP fdP ["thing"] (spIsPic K)) (mP : mg "is_picture" = some (.ref fP)) (kP : PySem.W.keepIn K (.ref fP) = true) (bP : Binds K fdP ["thing"] []) :
    FnOk P w K mg base (L2.CX P w) (k + 2) f fd ["thing"] (spWant K C) := by
  refine F.okX scWant (fun vs H Q E h => ?_) (fun cdv A outer s H vs Q E hr h => ?_)
  · obtain ⟨x, b, rfl, _⟩ := h
    rfl
  · obtain ⟨x, b, rfl, ask, q1, q2⟩ := h
    refine ⟨_, pss_one (ps_if (pt_not (pt_val (pe_call GP hr (by rfl) mP kP bP .nil pass0 (pa_cons (pv 0) pa_nil)))) (pss_one (ps_raise rfl (takes_of rfl rfl rfl rfl) (pmk_own PySem.F.excBase_ValueError N.x N.g N.k (raises_own N.b N.t) rfl))) pss_nil), ?_⟩
    refine ⟨x, rfl, x, b, rfl, ask, fun H' sm => ⟨_, rfl, ?_⟩⟩
    cases b with
    | true => exact iteF (q1 rfl H' sm)
    | false => exact iteT (q2 rfl H' sm)
end
end Dt
namespace Dt
open PySem PySem.Spec PyProof.Rows L2 L2X
open SX (S)
theorem pss_never {X : Cx} {st : List Stmt} : PSs X st (fun _ _ _ => False) := ⟨fun _ _ _ _ _ _ h => h.elim⟩
theorem pg_never {X : Cx} {tg : Expr} : PG X tg (fun _ _ _ _ => False) := ⟨fun _ _ _ _ _ _ _ _ _ h => h.elim⟩
abbrev sSize : Stmt := topS 27
abbrev sDots : Stmt := topS 28
abbrev sCut : Stmt := topS 29
abbrev sTurned : Stmt := topS 31
abbrev sShifted : Stmt := topS 34
abbrev sPieces : Stmt := topS 36
abbrev sCleaned : Stmt := topS 39
abbrev sUnlike : Stmt := topS 40
abbrev sWithT : Stmt := topS 42
theorem scSize : FnScope ["picture"] ["picture"] (defScope sSize) := ⟨rfl, rfl, rfl, by decide +kernel, rfl, by decide +kernel, by decide +kernel⟩
theorem scDots : FnScope ["picture"] ["picture"] (defScope sDots) := ⟨rfl, rfl, rfl, by decide +kernel, rfl, by decide +kernel, by decide +kernel⟩
theorem scCut : FnScope ["picture", "top", "left", "high", "wide", "rows", "columns"] ["picture", "top", "left", "high", "wide"] (defScope sCut) := ⟨rfl, rfl, rfl, by decide +kernel, rfl, by decide +kernel, by decide +kernel⟩
theorem scTurned : FnScope ["picture", "times", "columns"] ["picture", "times"] (defScope sTurned) := ⟨rfl, rfl, rfl, by decide +kernel, rfl, by decide +kernel, by decide +kernel⟩
theorem scShifted : FnScope ["picture", "steps", "rows"] ["picture", "steps"] (defScope sShifted) := ⟨rfl, rfl, rfl, by decide +kernel, rfl, by decide +kernel, by decide +kernel⟩
theorem scPieces : FnScope ["picture", "found", "seen"] ["picture"] (defScope sPieces) := ⟨rfl, rfl, rfl, by decide +kernel, rfl, by decide +kernel, by decide +kernel⟩
theorem scCleaned : FnScope ["picture", "most"] ["picture", "most"] (defScope sCleaned) := ⟨rfl, rfl, rfl, by decide +kernel, rfl, by decide +kernel, by decide +kernel⟩
theorem scUnlike : FnScope ["one", "other"] ["one", "other"] (defScope sUnlike) := ⟨rfl, rfl, rfl, by decide +kernel, rfl, by decide +kernel, by decide +kernel⟩
theorem scWithT : FnScope ["picture", "places", "rows", "columns"] ["picture", "places"] (defScope sWithT) := ⟨rfl, rfl, rfl, by decide +kernel, rfl, by decide +kernel, by decide +kernel⟩
/-- n arguments, the first of them no picture: refused -/
def spRef (K : PySem.W.Frag) (C : Addr) (n : Nat) : Sp := fun vs H Q E => ∃ x r, vs = x :: r ∧ r.length + 1 = n ∧ Asked K H x false ∧ ∀ H', Same H H' → E (.ref C) none H'
def spUnl (K : PySem.W.Frag) (C : Addr) : Sp := fun vs H Q E => ∃ x y b c, vs = [x, y] ∧ Asked K H x b ∧ Asked K H y c ∧ (b && c) = false ∧ ∀ H', Same H H' → E (.ref C) none H'
/-- size of a picture, or of what is none -/
def spSize (K : PySem.W.Frag) (C : Addr) : Sp := fun vs H Q E => ∃ x, vs = [x] ∧ ((Asked K H x false ∧ ∀ H', Same H H' → E (.ref C) none H') ∨
  ∃ a xs, x = .ref a ∧ SqT K H a xs ∧ (∀ y ∈ xs, Kn K H y) ∧ picOk xs = true ∧ ∀ p H', Same H H' → H p = none → H' p = some (.tup [.int (xs.length : Int), .int (lenV (xs.headD .non))]) → Q (.ref p) H')
theorem Asked.same {K : PySem.W.Frag} {H H' : Hp} {x : V} {b : Bool} (h : Asked K H x b) (s : Same H H') : Asked K H' x b := by
  rcases h with ⟨T, t, ok, ne, e⟩ | ⟨a, xs, e, h1, h2, e2⟩
  · refine .inl ⟨T, ?_, ok, ne, e⟩
    cases t with
    | non => exact .non
    | bl b => exact .bl b
    | int i => exact .int i
    | str x => exact .str x
    | byt b => exact .byt b
    | lst h => exact .lst (s.seq h)
    | tup h => exact .tup (sameT s h)
    | dK h => exact .dK (s _ _ h)
  · exact .inr ⟨a, xs, e, sameT s h1, fun l y hy => (h2 l y hy).same s, e2⟩
section
variable {P : Program} {w : World} {K : PySem.W.Frag} {mg : Str → Option Value} {base : Heap} {C : Addr}
/-- want_picture, and whoever calls it first -/
structure GW (P : Program) (w : World) (K : PySem.W.Frag) (mg : Str → Option Value) (base : Heap) (C : Addr) (k : Nat) : Prop where
  ex : ∃ f fd, FnOk P w K mg base (L2.CX P w) k f fd ["thing"] (spWant K C) ∧ mg "want_picture" = some (.ref f) ∧ PySem.W.keepIn K (.ref f) = true ∧ Binds K fd ["thing"] []
structure GS (P : Program) (w : World) (K : PySem.W.Frag) (mg : Str → Option Value) (base : Heap) (C : Addr) (k : Nat) : Prop where
  ex : ∃ f fd, FnOk P w K mg base (L2.CX P w) k f fd ["picture"] (spSize K C) ∧ mg "size" = some (.ref f) ∧ PySem.W.keepIn K (.ref f) = true ∧ Binds K fd ["picture"] []
theorem ok_size {f : Addr} {fd : FuncData} {k : Nat} (F : Fun K "size" "size" sSize f fd) (X : Tx mg) (G : GW P w K mg base C (k + 1)) : FnOk P w K mg base (L2.CX P w) (k + 2) f fd ["picture"] (spSize K C) := by
  obtain ⟨fW, fdW, GW, mW, kW, bW⟩ := G.ex
  refine F.okX scSize (fun vs H Q E h => ?_) (fun cdv A outer s H vs Q E hr h => ?_)
  · obtain ⟨x, rfl, _⟩ := h
    rfl
  · obtain ⟨x, rfl, h⟩ := h
    refine ⟨_, pss_cons (ps_expr (pe_callS GW hr (by rfl) mW kW bW (fun σ => passAt (takes_of rfl rfl rfl rfl) σ) (pa_cons (pv 0) pa_nil)))
      (pss_one (ps_ret (pe_tup (pa_cons (pe_callB call_len_seq (by rfl) X.len PySem.boot_len (pa_cons (pv 0) pa_nil)) (pa_cons (pe_callB call_len_str (by rfl) X.len PySem.boot_len (pa_cons (pe_ix (r := rIxT K) ix_tup (pv 0) pe_int (fun _ _ => rfl)) pa_nil)) pa_nil))))), ?_⟩
    rcases h with ⟨ask, q⟩ | ⟨a, xs, rfl, hx, kn, ok, q⟩
    · exact ⟨x, rfl, x, false, rfl, ask, (fun e => nomatch e), fun _ H' sm => q H' sm⟩
    · refine ⟨.ref a, rfl, .ref a, true, rfl, .inr ⟨a, xs, rfl, hx, fun _ => kn, ok.symm⟩, fun _ H' sm => ?_, fun e => nomatch e⟩
      have hx' := sameT sm hx
      unfold picOk at ok
      rw [Bool.and_eq_true, Bool.and_eq_true, Bool.and_eq_true] at ok
      obtain ⟨⟨⟨o1, o2⟩, o3⟩, o4⟩ := ok
      cases xs with
      | nil => exact absurd (of_decide_eq_true o1) (by decide)
      | cons x0 r =>
        have hk := List.all_eq_true.mp o3 x0 List.mem_cons_self
        cases x0 with
        | str z =>
          have hz := (kn _ List.mem_cons_self).2 z rfl
          refine ⟨.ref a, rfl, a, _, rfl, .inr hx', .ref a, rfl, a, _, 0, .str z, rfl, rfl, hx', atI_nat (j := 0) rfl, z, rfl, hz, by show 2 ≤ sizeLine; decide, fun p hp => ?_⟩
          exact q p _ (sm.trans (same_upd hp)) (sm.free hp) upd_same
        | _ => cases hk
theorem ok_dots {f : Addr} {fd : FuncData} {k : Nat} (F : Fun K "dots" "dots" sDots f fd) (G : GW P w K mg base C (k + 1)) : FnOk P w K mg base (L2.CX P w) (k + 2) f fd ["picture"] (spRef K C 1) := by
  obtain ⟨fW, fdW, GW, mW, kW, bW⟩ := G.ex
  refine F.okX scDots (fun vs H Q E h => ?_) (fun cdv A outer s H vs Q E hr h => ?_)
  · obtain ⟨x, r, rfl, hl, _⟩ := h
    exact hl
  · obtain ⟨x, r, rfl, hl, ask, q⟩ := h
    refine ⟨_, pss_cons (ps_expr (pe_callS GW hr (by rfl) mW kW bW (fun σ => passAt (takes_of rfl rfl rfl rfl) σ) (pa_cons (pv 0) pa_nil))) pss_never, ?_⟩
    exact ⟨x, rfl, x, false, rfl, ask, (fun e => nomatch e), fun _ H' sm => q H' sm⟩
theorem ok_cleaned {f : Addr} {fd : FuncData} {k : Nat} (F : Fun K "cleaned" "cleaned" sCleaned f fd) (G : GW P w K mg base C (k + 1)) : FnOk P w K mg base (L2.CX P w) (k + 2) f fd ["picture", "most"] (spRef K C 2) := by
  obtain ⟨fW, fdW, GW, mW, kW, bW⟩ := G.ex
  refine F.okX scCleaned (fun vs H Q E h => ?_) (fun cdv A outer s H vs Q E hr h => ?_)
  · obtain ⟨x, r, rfl, hl, _⟩ := h
    exact hl
  · obtain ⟨x, r, rfl, hl, ask, q⟩ := h
    refine ⟨_, pss_cons (ps_expr (pe_callS GW hr (by rfl) mW kW bW (fun σ => passAt (takes_of rfl rfl rfl rfl) σ) (pa_cons (pv 0) pa_nil))) pss_never, ?_⟩
    match r, hl with
    | [y], _ => exact ⟨x, rfl, x, false, rfl, ask, (fun e => nomatch e), fun _ H' sm => q H' sm⟩
theorem ok_unlike {f : Addr} {fd : FuncData} {k : Nat} (F : Fun K "unlike" "unlike" sUnlike f fd) (G : GW P w K mg base C (k + 1)) : FnOk P w K mg base (L2.CX P w) (k + 2) f fd ["one", "other"] (spUnl K C) := by
  obtain ⟨fW, fdW, GW, mW, kW, bW⟩ := G.ex
  refine F.okX scUnlike (fun vs H Q E h => ?_) (fun cdv A outer s H vs Q E hr h => ?_)
  · obtain ⟨x, y, b, c, rfl, _⟩ := h
    rfl
  · obtain ⟨x, y, b, c, rfl, ax, ay, e, q⟩ := h
    refine ⟨_, pss_cons (ps_expr (pe_callS GW hr (by rfl) mW kW bW (fun σ => passAt (takes_of rfl rfl rfl rfl) σ) (pa_cons (pv 0) pa_nil)))
      (pss_cons (ps_expr (pe_callS GW hr (by rfl) mW kW bW (fun σ => passAt (takes_of rfl rfl rfl rfl) σ) (pa_cons (pv 1) pa_nil))) pss_never), ?_⟩
    refine ⟨x, rfl, x, b, rfl, ax, fun eb H1 s1 => ?_, fun _ H' sm => q H' sm⟩
    subst eb
    have ec : c = false := e
    subst ec
    exact ⟨y, rfl, y, false, rfl, ay.same s1, (fun e => nomatch e), fun _ H' sm => q H' (s1.trans sm)⟩
theorem ok_cut {f : Addr} {fd : FuncData} {k : Nat} (F : Fun K "cut_out" "cut_out" sCut f fd) (G : GS P w K mg base C (k + 1)) : FnOk P w K mg base (L2.CX P w) (k + 2) f fd ["picture", "top", "left", "high", "wide"] (spRef K C 5) := by
  obtain ⟨fW, fdW, GW, mW, kW, bW⟩ := G.ex
  refine F.okX scCut (fun vs H Q E h => ?_) (fun cdv A outer s H vs Q E hr h => ?_)
  · obtain ⟨x, r, rfl, hl, _⟩ := h
    exact hl
  · obtain ⟨x, r, rfl, hl, ask, q⟩ := h
    refine ⟨_, pss_cons (ps_asg (pe_callS GW hr (by rfl) mW kW bW (fun σ => passAt (takes_of rfl rfl rfl rfl) σ) (pa_cons (pv 0) pa_nil)) pg_never) pss_never, ?_⟩
    match r, hl with
    | [y1, y2, y3, y4], _ => exact ⟨x, rfl, x, rfl, .inl ⟨ask, q⟩⟩
theorem ok_withT {f : Addr} {fd : FuncData} {k : Nat} (F : Fun K "with_turned" "with_turned" sWithT f fd) (G : GS P w K mg base C (k + 1)) : FnOk P w K mg base (L2.CX P w) (k + 2) f fd ["picture", "places"] (spRef K C 2) := by
  obtain ⟨fW, fdW, GW, mW, kW, bW⟩ := G.ex
  refine F.okX scWithT (fun vs H Q E h => ?_) (fun cdv A outer s H vs Q E hr h => ?_)
  · obtain ⟨x, r, rfl, hl, _⟩ := h
    exact hl
  · obtain ⟨x, r, rfl, hl, ask, q⟩ := h
    refine ⟨_, pss_cons (ps_asg (pe_callS GW hr (by rfl) mW kW bW (fun σ => passAt (takes_of rfl rfl rfl rfl) σ) (pa_cons (pv 0) pa_nil)) pg_never) pss_never, ?_⟩
    match r, hl with
    | [y1], _ => exact ⟨x, rfl, x, rfl, .inl ⟨ask, q⟩⟩
theorem ok_turned {f : Addr} {fd : FuncData} {k : Nat} (F : Fun K "turned" "turned" sTurned f fd) (G : GS P w K mg base C (k + 1)) : FnOk P w K mg base (L2.CX P w) (k + 2) f fd ["picture", "times"] (spRef K C 2) := by
  obtain ⟨fW, fdW, GW, mW, kW, bW⟩ := G.ex
  refine F.okX scTurned (fun vs H Q E h => ?_) (fun cdv A outer s H vs Q E hr h => ?_)
  · obtain ⟨x, r, rfl, hl, _⟩ := h
    exact hl
  · obtain ⟨x, r, rfl, hl, ask, q⟩ := h
    refine ⟨_, pss_cons (ps_set (i := 2) scTurned.nd rfl (.inl rfl) (pe_ix (r := rIxT K) ix_tup (pe_callS GW hr (by rfl) mW kW bW (fun σ => passAt (takes_of rfl rfl rfl rfl) σ) (pa_cons (pv 0) pa_nil)) pe_int (fun _ _ => rfl))) pss_never, ?_⟩
    match r, hl with
    | [y1], _ => exact ⟨x, rfl, x, rfl, .inl ⟨ask, q⟩⟩
theorem ok_shifted {f : Addr} {fd : FuncData} {k : Nat} (F : Fun K "shifted" "shifted" sShifted f fd) (G : GS P w K mg base C (k + 1)) : FnOk P w K mg base (L2.CX P w) (k + 2) f fd ["picture", "steps"] (spRef K C 2) := by
  obtain ⟨fW, fdW, GW, mW, kW, bW⟩ := G.ex
  refine F.okX scShifted (fun vs H Q E h => ?_) (fun cdv A outer s H vs Q E hr h => ?_)
  · obtain ⟨x, r, rfl, hl, _⟩ := h
    exact hl
  · obtain ⟨x, r, rfl, hl, ask, q⟩ := h
    refine ⟨_, pss_cons (ps_set (i := 2) scShifted.nd rfl (.inl rfl) (pe_ix (r := rIxT K) ix_tup (pe_callS GW hr (by rfl) mW kW bW (fun σ => passAt (takes_of rfl rfl rfl rfl) σ) (pa_cons (pv 0) pa_nil)) pe_int (fun _ _ => rfl))) pss_never, ?_⟩
    match r, hl with
    | [y1], _ => exact ⟨x, rfl, x, rfl, .inl ⟨ask, q⟩⟩
theorem ok_pieces {f fD : Addr} {fd fdD : FuncData} {k : Nat} (F : Fun K "pieces" "pieces" sPieces f fd) (ms : mg "set" = none) (GD : FnOk P w K mg base (L2.CX P w) (k + 1) fD fdD ["picture"] (spRef K C 1)) (mD : mg "dots" = some (.ref fD)) (kD : PySem.W.keepIn K (.ref fD) = true) (bD : Binds K fdD ["picture"] []) : FnOk P w K mg base (L2.CX P w) (k + 2) f fd ["picture"] (spRef K C 1) := by
  refine F.okX scPieces (fun vs H Q E h => ?_) (fun cdv A outer s H vs Q E hr h => ?_)
  · obtain ⟨x, r, rfl, hl, _⟩ := h
    exact hl
  · obtain ⟨x, r, rfl, hl, ask, q⟩ := h
    have nd := scPieces.nd
    refine ⟨_, pss_cons (ps_set (i := 1) nd rfl (.inl rfl) (pe_lst pa_nil)) (pss_cons (ps_set (i := 2) nd rfl (.inl rfl) (pe_callTy0 cr_set0 (by rfl) ms (by decide +kernel)))
      (pss_cons (ps_for (passes_of rfl) rfl (pi_list (pe_callS GD hr (by rfl) mD kD bD (fun σ => passAt (takes_of rfl rfl rfl rfl) σ) (pa_cons (pv 0) pa_nil))) pg_never pss_never) pss_never)), ?_⟩
    match r, hl with
    | [], _ =>
      refine ⟨by show 0 ≤ sizeLine; decide, fun l hl => ⟨rfl, fun p hp => ?_⟩⟩
      have s1 := same_upd (o := .lst []) hl
      exact ⟨x, rfl, x, [], rfl, rfl, (ask.same s1).same (same_upd hp), fun H' sm => q H' ((s1.trans (same_upd hp)).trans sm)⟩
end
end Dt
/-! a comprehension whose elements are walked with the frame around it at hand -/
namespace L2X
open PySem PySem.Spec PyProof.Rows L2
section
variable {X : Cx}
/-- the block of a comprehension, begun at s1 over H1 -/
abbrev Bk (X : Cx) (sc : Scope) (s1 : Shared) (H1 : Hp) (L : Addr) (cl : List (Str × Addr)) (fp : List Addr) : Cx :=
  X.blk s1 H1 sc (compEnvC sc cl L X.env) fp
/-- from within the block the frame around it is seen -/
theorem out_of {pins pj : List (Addr × Obj)} {σ τ : L2.St} {H1 H2 : Hp} {s1 s2 : Shared} {sc : Scope} {L : Addr} {cl : List (Str × Addr)} {fp : List Addr}
    (I : Inv X pins σ H1 s1) (hf : ∀ b ∈ fp, FpOk X pins H1 b)
    (B : Inv (Bk X sc s1 H1 L cl fp) pj τ H2 s2) : Inv X pins σ H2 s2 := by
  refine I.call' (ch := fp) B.os B.base B.hok B.bare fun b hb => ?_
  have z := hf b hb
  exact ⟨z.2.2.2.1, z.2.1, z.2.2.2.2.1, z.2.2.2.2.2⟩
theorem pe_lcI {elt tg iter : Expr} {sc : Scope} {own : List (Str × Nat)} {pos : Pos} {wi : TI} {g : TG} {te : L2.St → TE}
    (hc : X.calm = true) (hN : X.N.Nodup) (hi : PI X tg iter wi) (ok : BlkOk X.N X.env.scope sc own)
    (hg : ∀ (s1 : Shared) (H1 : Hp) (L : Addr) (cl : List (Str × Addr)) (fp : List Addr), PG (Bk X sc s1 H1 L cl fp) tg g)
    (he : ∀ (pins : List (Addr × Obj)) (σ : L2.St) (s1 : Shared) (H1 : Hp) (L : Addr) (cl : List (Str × Addr)) (fp : List Addr),
      Inv X pins σ H1 s1 → (∀ b ∈ fp, FpOk X pins H1 b) → PE (Bk X sc s1 H1 L cl fp) elt (te σ))
    (hs : ∀ x, foldedSetIterable iter X.env x = pure x := by intro _; rfl) :
    PE X (.ListComp elt [⟨tg, iter, [], 0⟩] sc pos) (fun σ H Q => tLc wi g tYes (te σ) (own.map (·.2)) σ H Q) := by
  constructor
  intro pins s σ H Q I h
  rw [eval_ListComp]
  have freeIn : ∀ y ∈ sc.names, y.2 = .free → ∃ c, X.env.cells.lookup y.1 = some c := by
    intro y hy e
    cases ok.free y hy e with
    | inl k => exact I.ok.has _ (.inl k)
    | inr k => exact I.ok.has _ (.inr k)
  have uq : ∀ y ∈ sc.names, _ := fun y hy (e : y.2 = .local) => (ok.uniq y hy).trans (congrArg some e)
  apply wpAny_comprehension_free (use := none) rfl hs (closure_ok freeIn) ok.kind uq
  refine thn (hi.run pins s σ H _ I h) ?_
  intro xv sa hx
  refine thn hx ?_
  rintro itv sb ⟨it, fp, tn, J, Hb, rfl, Ib, T, stb, fb, rd⟩
  apply wpAny_newObj_type
  · apply newEnv_comp
    have newD : Hb sb.heap.objs.size = none := Ib.hok.fresh (Nat.le_refl _)
    obtain ⟨W, ⟨m0, w0⟩, tu⟩ := rd sb.heap.objs.size newD
    generalize eD : sb.heap.objs.size = D at newD w0 tu ⊢
    have objD : (sb.heap.push { cls := .type "list", data := .seq ([] : List Value).toArray }).get? D = some { cls := .type "list", data := .seq ([] : List Value).toArray } := by
      rw [← eD]
      exact Heap.get?_push_size _ rfl
    have Ic : Inv X pins σ (upd Hb D (.lst [])) { sb with heap := sb.heap.push { cls := .type "list", data := .seq ([] : List Value).toArray } } :=
      Ib.laid (t' := sb.toks) (fun b o e => Heap.get?_push_of_some _ e) (by rw [eD]; exact Nat.le_refl _) ⟨by show 0 ≤ sizeLine; decide, [], 0, .nil, objD⟩
    have stc : tn 0 (sb.heap.push { cls := .type "list", data := .seq ([] : List Value).toArray }) := T.keep _ _ _ stb fun b _ o e => Heap.get?_push_of_some _ e
    have fc : ∀ b ∈ fp, FpOk X pins (upd Hb D (.lst [])) b ∧ b < (sb.heap.push { cls := .type "list", data := .seq ([] : List Value).toArray }).objs.size := by
      intro b hb
      obtain ⟨o, e, _⟩ := T.obj _ _ stb b hb
      have lt := Heap.lt_size e
      have z := fb b hb
      constructor
      · refine ⟨?_, z.2⟩
        rw [upd_ne (show b ≠ D from Nat.ne_of_lt (eD ▸ lt))]
        exact z.1
      · rw [Heap.size_push]
        exact Nat.lt_succ_of_lt lt
    generalize eC : ({ sb with heap := sb.heap.push { cls := .type "list", data := .seq ([] : List Value).toArray } } : Shared) = sC at Ic
    have eCh : sb.heap.push { cls := .type "list", data := .seq ([] : List Value).toArray } = sC.heap := by rw [← eC]
    rw [eCh] at stc fc
    generalize eHc : upd Hb D (.lst []) = Hc at Ic fc w0
    have Id := block_start Ic ok hN fc
    generalize eCells : cellsFrom (sC.heap.objs.size + 1) sc.names (cloFrom X.env.cells sc.names []) = cl at Id ⊢
    change codeAny _ _ (.compStart (.ListComp elt [⟨tg, iter, [], 0⟩] sc pos) 0 (.ref it) (.ref D) (compEnvC sc cl sC.heap.objs.size X.env))
      (compPost (model X.prog X.w) X.A X.xe none (EP X pins σ Q) (.ref D) sC.heap.objs.size) _
    have gT := hg sC Hc sC.heap.objs.size cl fp
    have gE := he pins σ sC Hc sC.heap.objs.size cl fp Ic fun b hb => (fc b hb).1
    have std : tn 0 (pushCells (sC.heap.push { cls := .type "dict", data := .dict #[] }) sc.names) :=
      T.keep _ _ _ stc fun b _ o e => pushCells_keeps _ _ _ _ (Heap.get?_push_of_some _ e)
    generalize eD4 : ({ sC with heap := pushCells (sC.heap.push { cls := .type "dict", data := .dict #[] }) sc.names } : Shared) = sD at Id ⊢
    have eDh : pushCells (sC.heap.push { cls := .type "dict", data := .dict #[] }) sc.names = sD.heap := by rw [← eD4]
    rw [eDh] at std
    have walk : codeAny (model X.prog X.w) X.A (.compLoop (.ListComp elt [⟨tg, iter, [], 0⟩] sc pos) 0 (.ref it) (.ref D) (compEnvC sc cl sC.heap.objs.size X.env))
        (compPost (model X.prog X.w) X.A X.xe none (EP X pins σ Q) (.ref D) sC.heap.objs.size) sD := by
      apply compLoop_any (fun n t => ∃ (i : Nat) (G : Hp), Inv (Bk X sc sC Hc sC.heap.objs.size cl fp) [] (wipe σ (own.map (·.2))) G t ∧ tn i t.heap ∧ (∀ b ∈ fp, G b = none) ∧ W i n G) _ m0
        ⟨0, Hc, Id, std, fun b hb => (fc b hb).1.1, w0⟩
      rintro n t ⟨i, G, It, tt, gn, wi⟩
      have fpB : ∀ {τ : L2.St} {G' : Hp} {t' : Shared}, Inv (Bk X sc sC Hc sC.heap.objs.size cl fp) [] τ G' t' → (∀ b ∈ fp, G' b = none) → ∀ b ∈ fp, FpOk (Bk X sc sC Hc sC.heap.objs.size cl fp) [] G' b := by
        intro τ G' t' B hn b hb
        have z := B.ok.exf b hb
        exact ⟨hn b hb, z.1, B.ok.exfs b hb, .inl hb, fun x c e => z.2 x c e, fun p hp => nomatch (show p ∈ ([] : List (Addr × Obj)) from hp)⟩
      rcases tu i n G wi with ⟨st, q⟩ | ⟨go, Nx, toW, step⟩
      · apply thnF (T.done (Bk X sc sC Hc sC.heap.objs.size cl fp) rfl rfl rfl hc i [] t _ G (fun _ _ => False) It (fpB It gn) tt st)
        rintro r u ⟨rfl, Iu⟩
        have Iout := out_of Ic (fun b hb => (fc b hb).1) Iu
        obtain ⟨m, nsL, _⟩ := id Iu.loc
        have freeL : G sC.heap.objs.size = none := Iu.free
        refine ⟨m, nsL, fun h' sb' => ?_⟩
        have fL := Ic.fpOk (Nat.le_refl _) freeL
        exact ⟨.ref D, G, Iout.turned (t' := u.toks) (fun b o hb e => (sb'.2 b hb).trans e) fL.1 fL.2.1 fL.2.2.2.1 fL.2.2.2.2.1 fL.2.2.2.2.2, rfl, q⟩
      · apply thnF (T.item (Bk X sc sC Hc sC.heap.objs.size cl fp) rfl rfl rfl hc i [] t _ G (fun _ _ => False) It (fpB It gn) tt go)
        rintro r t1 ⟨u, rfl, hu⟩
        refine thnF hu ?_
        rintro _ t2 ⟨x, G2, I2, rx, yl, tt2, gn2⟩
        have Ip := I2.pinned (fpB I2 gn2) (T.obj _ _ tt2)
        refine thnF (gT.run _ t2 _ G2 x u _ Ip rx (step x G2 yl)) ?_
        rintro _ t3 ⟨τ, G3, I3, wq, q3⟩
        simp only [tYes, if_true] at q3
        apply wpAny_tests_nil
        simp only [if_true]
        refine thnF (gE.run _ t3 τ G3 _ I3 q3) ?_
        rintro z t4 ⟨y, G4, I4, ry, acc, accD, accL, nx⟩
        refine app_ok (X := Bk X sc sC Hc sC.heap.objs.size cl fp) I4 accD accL ry fun t5 I5 => ?_
        obtain ⟨m, lt, wm⟩ := toW _ nx
        have still : ∀ b ∈ fp, ∀ o, t2.heap.get? b = some o → t5.heap.get? b = some o ∧ (upd G4 D (.lst (acc ++ [y]))) b = none := by
          intro b hb o e
          have z := I5.pin (b, o) (List.mem_append_right _ (List.mem_append_right _ (mem_pinsAt hb e)))
          exact ⟨z.1, z.2.1⟩
        refine ⟨m, lt, i + 1, _, (I5.unpinned (pins := [])).weak ?_ fun j v e => ?_, T.keep _ _ _ tt2 fun b hb o e => (still b hb o e).1, fun b hb => ?_, wm⟩
        · rw [← wq, wipe_length]
        · rw [← wq] at e
          exact (wipe_some e).1
        · obtain ⟨o, e, _⟩ := T.obj _ _ tt2 b hb
          exact (still b hb o e).2
    exact codeAny_compStart_list walk (T.self X.A 0 _ _ _ std walk)
  · show 0 ≤ sizeLine
    decide
end
end L2X
/-! objects taken under watch, and let go; a caught exception kept behind its clause -/
namespace L2X
open PySem PySem.Spec PyProof.Rows L2
section
variable {X : Cx} {pins : List (Addr × Obj)} {σ : L2.St} {H : Hp} {s : Shared}
/-- an object that is younger than the entry comes under watch -/
theorem adopt {a : Addr} {o : HO} {oe : Obj} (I : Inv X pins σ H s) (ha : s.heap.get? a = some oe) (nc : ∀ v, oe.data ≠ .cell v) (na : H a = none) (nL : a ≠ X.env.locals)
    (n0 : X.s_0.heap.get? a = none) (np : ∀ p ∈ X.pn ++ pins, p.1 ≠ a) (new : ObjOk X.prog X.w (upd H a o) s.heap a o) : Inv X pins σ (upd H a o) s := by
  have old : ∀ b u, H b = some u → (upd H a o) b = some u := by
    intro b u e
    rw [upd_ne (ne_of_none e na)]
    exact e
  have ent : ∀ b u, X.s_0.heap.get? b = some u → b ≠ a := by
    rintro b u e rfl
    rw [n0] at e
    cases e
  constructor
  · exact I.ok
  · exact I.os
  · exact I.bare
  · constructor
    · exact I.base.keep
    · exact I.base.slot
    · intro b u e n hx
      rw [upd_ne (ent b u e)]
      exact I.base.free b u e n hx
    · exact I.base.there
    · exact fun b xs e => old _ _ (I.base.tups b xs e)
    · exact fun b u v e => old _ _ (I.base.frzs b u v e)
    · intro b ps e
      obtain ⟨m, q⟩ := I.base.tbls b ps e
      exact ⟨m, old _ _ q⟩
  · exact I.loc
  · exact I.cell
  · rw [upd_ne nL.symm]
    exact I.free
  · intro x c e
    have nca : c ≠ a := by
      rintro rfl
      obtain ⟨v, oc, hoc, hd⟩ := I.cell x c e
      rw [ha] at hoc
      cases hoc
      exact nc _ hd
    rw [upd_ne nca]
    exact I.freeC x c e
  · intro p hp
    obtain ⟨e, n, r⟩ := I.pin p hp
    refine ⟨e, ?_, r⟩
    rw [upd_ne (np p hp)]
    exact n
  · intro b u e
    by_cases hb : b = a
    · subst hb
      rw [upd_same] at e
      cases e
      exact new
    · rw [upd_ne hb] at e
      exact (I.hok b u e).stay (fun _ _ _ q => q) (fun c q => old _ _ q) fun c xs q => old _ _ q
  · exact I.len
/-- a thing of our own is let go -/
theorem letgo {a : Addr} {φ : Heap → Prop} (I : Inv X pins σ H s) (ha : H a = some (.ext φ)) : Inv X pins σ (delH H a) s := by
  have oth : ∀ b u, H b = some u → (∀ ψ, u ≠ .ext ψ) → delH H a b = some u := by
    intro b u e ne
    rw [delH_ne]
    · exact e
    · rintro rfl
      rw [ha] at e
      cases e
      exact ne _ rfl
  have non : ∀ b, H b = none → delH H a b = none := by
    intro b e
    by_cases hb : b = a
    · rw [hb]
      exact delH_same
    · rw [delH_ne hb]
      exact e
  constructor
  · exact I.ok
  · exact I.os
  · exact I.bare
  · constructor
    · exact I.base.keep
    · exact I.base.slot
    · exact fun b u e n hx => non b (I.base.free b u e n hx)
    · exact I.base.there
    · exact fun b xs e => oth _ _ (I.base.tups b xs e) fun ψ z => nomatch z
    · exact fun b u v e => oth _ _ (I.base.frzs b u v e) fun ψ z => nomatch z
    · intro b ps e
      obtain ⟨m, q⟩ := I.base.tbls b ps e
      exact ⟨m, oth _ _ q fun ψ z => nomatch z⟩
  · exact I.loc
  · exact I.cell
  · exact non _ I.free
  · exact fun x c e => non _ (I.freeC x c e)
  · intro p hp
    obtain ⟨e, n, r⟩ := I.pin p hp
    exact ⟨e, non _ n, r⟩
  · intro b u e
    by_cases hb : b = a
    · rw [hb, delH_same] at e
      cases e
    · rw [delH_ne hb] at e
      exact (I.hok b u e).stay (fun _ _ _ q => q) (fun c q => oth _ _ q fun ψ z => nomatch z) fun c xs q => oth _ _ q fun ψ z => nomatch z
  · exact I.len
end
/-- a caught exception of the class cls stands at a -/
def ExI (cls : Value) (d : Option Addr) (a : Addr) : HO := .ext fun h => ∃ oe, h.get? a = some oe ∧ Zc cls d oe ∧ ∃ vs, oe.data = .fields vs
theorem exI_ok {P : Program} {w : World} {H : Hp} {h : Heap} {a : Addr} {cls : Value} {d : Option Addr} {oe : Obj} {vs : Array Value} (e : h.get? a = some oe) (z : Zc cls d oe) (f : oe.data = .fields vs) : ObjOk P w H h a (ExI cls d a) := by
  refine ⟨⟨oe, e, z, vs, f⟩, ⟨oe, e⟩, ?_⟩
  rintro h1 h2 ⟨o, q, r⟩ k
  exact ⟨o, k _ q, r⟩
/-- the wish of a clause 'except x as n' that takes all that comes, and behind which the exception is kept -/
def wKeep (K : PySem.W.Frag) (c : Value) (i : Nat) (ts : Addr → Value → Option Addr → TS) (D : Ends) : WX := fun cls d σ H =>
  PySem.W.exmOne K cls c = some true ∧ ∀ a, H a = none → ts a cls d { nx := fun σ' H' => D.nx (σ'.set i none) (upd H' a (ExI cls d a)), rt := fun _ _ => False } (σ.set i (some (.ref a))) H
section
variable {X : Cx} {x n : Str} {c : Value} {i : Nat} {body sr : List Stmt} {b0 : Stmt} {np p1 p2 : Pos} {tb : WX → TS} {ts : Addr → Value → Option Addr → TS}
/-- what the watch over a try's body does with an exception -/
def Watch (X : Cx) (pins : List (Addr × Obj)) (D : Ends) (hd : ExceptHandler) : Value → Shared → Prop := fun e sa =>
  wpAny (model X.prog X.w) X.A (noteFrame e X.env)
    (fun _ sb => wpAny (model X.prog X.w) X.A (setFlight e none)
      (fun _ sc => wpAny (model X.prog X.w) X.A (handleBy e X.env [hd]) (SP X pins D) X.xe sc) X.xe sb) X.xe sa
theorem watched {pins : List (Addr × Obj)} {D : Ends} (st : X.stack = X.env :: X.outer) (fr : X.env.frame = some X.env.locals) (hex : X.ex = []) (hN : X.N.Nodup) (hi : X.N[i]? = some n) (hln : X.env.kindOf n = some .local) (hc : Names X x c) (ok : X.Ok)
    (hsu : ∀ (a : Addr) (oe : Obj) (cls : Value) (d : Option Addr) (pn : List (Addr × Obj)), Zc cls d oe → (∃ vs, oe.data = .fields vs) → PSs (X.suite a ((a, oe) :: pn)) (b0 :: sr) (ts a cls d)) :
    Takes (X.tr (X.pn ++ pins) (Watch X pins D (.ExceptHandler (some (.Name x np)) (some n) (b0 :: sr) p2))) (wKeep X.K c i ts D) := by
  rintro u t ⟨a, B, sI, pj, τ, G, cls, d, rfl, Jt, toB, up, sky, na, os, ag, caught, suiteOk⟩
  have J : Inv X pins τ G sI := Jt.ofTry ok
  have fs : X.A.frames = some (X.env :: X.outer) := ok.frames.trans (congrArg some st)
  have sky' : Sky B (X.env :: X.outer) a (Zc cls d) X.env.locals t.heap := st ▸ sky
  unfold Watch
  apply Sky.land Zc.steady fs fr sky'
  intro h3 fly up3
  have J3 : Inv X pins τ G { t with heap := h3 } := J.landed toB fly.1 (up.trans up3) os ag
  obtain ⟨oe3, vs3, got3, cls3, dat3⟩ := fly.there
  have noFrame : a ∉ frs (X.env :: X.outer) := by
    intro hm
    obtain ⟨_, o', e', nf⟩ := fly.2.2.1.mem hm
    rw [got3] at e'
    cases e'
    exact nf _ dat3
  have neL : a ≠ X.env.locals := fun z => noFrame (List.mem_filterMap.mpr ⟨X.env, List.mem_cons_self, by rw [fr, z]⟩)
  have neF : a ∉ X.fs := by
    intro hm
    obtain ⟨e, he, q⟩ := List.mem_filterMap.mp hm
    exact noFrame (List.mem_filterMap.mpr ⟨e, List.mem_cons_of_mem _ he, q⟩)
  have notI : sI.heap.get? a = none := by
    cases e : sI.heap.get? a with
    | none => rfl
    | some o =>
      have z := toB a o e (by rw [st]; exact noFrame)
      rw [fly.2.1] at z
      cases z
  have not0 : X.s_0.heap.get? a = none := by
    cases e : X.s_0.heap.get? a with
    | none => rfl
    | some o =>
      obtain ⟨o', z⟩ := J.base.there a o e (by rw [hex]; exact fun z => nomatch z)
      rw [notI] at z
      cases z
  have notPin : ∀ p ∈ X.pn ++ pins, p.1 ≠ a := by
    rintro p hp rfl
    have z := (J.pin p hp).1
    rw [notI] at z
    cases z
  have S3 := J3.suite got3 dat3 na neL neF
  apply wpAny_handleBy_cons (codeAny_handlers_test _) (by intro q; cases q)
  have lookT : PySem.W.Looks (model X.prog X.w) h3 (typeOf (.ref a)) cls := by
    intro A Q E s k q
    exact wpAny_typeOf_ref (k _ _ got3) (cls3.1 ▸ q)
  have lookM := PySem.W.exm_one (M := model X.prog X.w) J3.kIn lookT caught
  have named : ∀ {Q E : Value → Shared → Prop}, Q c { t with heap := h3 } → wpAny (model X.prog X.w) (X.A.mark (some (.ref a))) (eval (.Name x np) X.env) Q E { t with heap := h3 } := by
    intro Q E q
    rcases hc with ⟨hg, hdb, hm | ⟨hm, hv, hnn⟩⟩
    · exact ld_glob (X := X.suite a ((a, oe3) :: (X.pn ++ pins))) S3 hg hm q hdb
    · exact ld_blt (X := X.suite a ((a, oe3) :: (X.pn ++ pins))) S3 hg hm hv q hnn hdb
  apply named
  apply lookM.here
  refine codeAny_handlers_suite_as ?_
  apply HandSPX.lands_againZ fly
  intro h4 fly4 up4
  have J4 : Inv X pins τ G { t with heap := h4 } := J.landed toB fly4.1 ((up.trans up3).trans up4) os ag
  obtain ⟨oe4, vs4, got4, cls4, dat4⟩ := fly4.there
  have S4 := J4.suite got4 dat4 na neL neF
  refine store_ok (X := X.suite a ((a, oe4) :: (X.pn ++ pins))) (v := .ref a) S4 hN hi (.inl hln) rfl (fun s5 S5 => ?_) (.inr hln)
  refine wpAny_mono ((hsu a oe4 cls d (X.pn ++ pins) cls4 ⟨_, dat4⟩).run [] s5 _ G _ S5 (suiteOk a na)) ?_ (fun _ _ z => False.elim z)
  rintro f s6 hsp
  cases f with
  | next =>
    obtain ⟨τ6, G6, S6, q6⟩ := hsp
    have pinned : Inv X ((a, oe4) :: pins) τ6 G6 s6 := by
      refine (S6.unsuite ok).pins_of fun p hp => ?_
      have z := S6.pin p
      cases List.mem_cons.mp hp with
      | inl e => exact z (by rw [e]; exact List.mem_append_left _ List.mem_cons_self)
      | inr e => exact z (List.mem_append_left _ (List.mem_cons_of_mem _ (List.mem_append_right _ e)))
    refine gone_ok pinned hN hi hln fun s7 J7 => ?_
    have z := J7.pin (a, oe4) (List.mem_append_right _ List.mem_cons_self)
    have J8 : Inv X pins (τ6.set i none) G6 s7 := J7.pins_of fun p hp => J7.pin p (List.mem_append_right _ (List.mem_cons_of_mem _ hp))
    exact ⟨_, _, adopt J8 z.1 z.2.2.2.2 z.2.1 z.2.2.1 not0 notPin (exI_ok z.1 cls4 dat4), q6⟩
  | brk =>
    obtain ⟨τ6, G6, S6, q6⟩ := hsp
    exact q6.elim
  | cont =>
    obtain ⟨τ6, G6, S6, q6⟩ := hsp
    exact q6.elim
  | ret u =>
    obtain ⟨v6, τ6, G6, S6, r6, q6⟩ := hsp
    exact q6.elim
/-- try: body / except x as n: suite, n's exception kept under watch behind it -/
theorem ps_try_keep (st : X.stack = X.env :: X.outer) (fr : X.env.frame = some X.env.locals) (hex : X.ex = []) (hN : X.N.Nodup) (hi : X.N[i]? = some n) (hln : X.env.kindOf n = some .local) (hc : Names X x c)
    (hb : ∀ (W : WX) (pn : List (Addr × Obj)) (xe : Value → Shared → Prop), Takes (X.tr pn xe) W → PassesOwn (model X.prog X.w) X.A X.env xe → PSs (X.tr pn xe) body (tb W))
    (hsu : ∀ (a : Addr) (oe : Obj) (cls : Value) (d : Option Addr) (pn : List (Addr × Obj)), Zc cls d oe → (∃ vs, oe.data = .fields vs) → PSs (X.suite a ((a, oe) :: pn)) (b0 :: sr) (ts a cls d)) :
    PS X (.Try body [.ExceptHandler (some (.Name x np)) (some n) (b0 :: sr) p2] [] [] p1) (fun D σ H => tb (wKeep X.K c i ts D) D σ H) := by
  constructor
  intro pins s σ H D I h
  apply wpAny_Try_except
  have run := (hb (wKeep X.K c i ts D) (X.pn ++ pins) (Watch X pins D (.ExceptHandler (some (.Name x np)) (some n) (b0 :: sr) p2)) (watched st fr hex hN hi hln hc I.ok hsu) PassesOwn.looking).run [] s σ H D (I.toTry _) h
  refine wpAny_mono run ?_ (fun _ _ z => z)
  rintro f t hsp
  cases f with
  | next =>
    obtain ⟨τ, G, J, q⟩ := hsp
    exact wpAny_execs_nil ⟨τ, G, J.ofTry I.ok, q⟩
  | brk =>
    obtain ⟨τ, G, J, q⟩ := hsp
    exact ⟨τ, G, J.ofTry I.ok, q⟩
  | cont =>
    obtain ⟨τ, G, J, q⟩ := hsp
    exact ⟨τ, G, J.ofTry I.ok, q⟩
  | ret u =>
    obtain ⟨v, τ, G, J, r, q⟩ := hsp
    exact ⟨v, τ, G, J.ofTry I.ok, r, q⟩
end
end L2X
namespace L2X
open PySem PySem.Spec PyProof.Rows L2
/-- isinstance(e, c), e a kept exception -/
def rIsX (K : PySem.W.Frag) : List V → Hp → VK → Prop := fun xs H Q => ∃ (a D : Addr) (c : V) (cv : Value) (b : Bool), xs = [.ref a, c] ∧ H a = some (ExI (.ref D) none a) ∧ ExcC K D ∧ (∀ u, RelV c u → u = cv) ∧ PySem.W.kitOne K (.ref D) cv = some b ∧ Q (.bl b) H
theorem call_isX {X : Cx} : CallR X (.builtin "isinstance") (rIsX X.K) := by
  intro pins s σ H xs us Q I r h
  obtain ⟨a, D, c, cv, b, rfl, ha, C, hcv, e, q⟩ := h
  cases r with
  | cons rx rr =>
    cases rr with
    | cons rt rr =>
      cases rr
      cases rx
      have ec := hcv _ rt
      subst ec
      obtain ⟨⟨oe, got, ⟨zc, zd⟩, vs, hv⟩, _⟩ := I.hok a _ ha
      have J : PySem.W.InstAt s.heap a oe D none := ⟨got, zc, by unfold PySem.W.notCls; rw [hv], by rw [zd]; trivial⟩
      exact PySem.W.kia_one (PySem.W.handS_kitx_exc C.hg C.hk C.hs C.hd C.ha C.hn C.ht C.hm) I.kIn J e (fun z => nomatch z) fun tk => ⟨.bl b, H, I.kept (t' := tk) fun _ _ z => z, rfl, q⟩
end L2X
namespace Dt
open PySem PySem.Spec PyProof.Rows L2 L2X
open SX (S)
/-! ### lists of marks -/
/-- tuples of a word and a truth, at the addresses vs -/
inductive Tps (H : Hp) : List V → List (Str × Bool) → Prop
  | nil : Tps H [] []
  | cons {t : Addr} {w : Str} {b : Bool} {vs : List V} {ws : List (Str × Bool)} : H t = some (.tup [.str w, .bl b]) → Tps H vs ws → Tps H (.ref t :: vs) ((w, b) :: ws)
theorem Tps.same {H H' : Hp} {vs : List V} {ws : List (Str × Bool)} (h : Tps H vs ws) (s : Same H H') : Tps H' vs ws := by
  induction h with
  | nil => exact .nil
  | cons e _ ih => exact .cons (s _ _ e) ih
theorem Tps.app {H : Hp} {vs us : List V} {ws xs : List (Str × Bool)} (h : Tps H vs ws) (g : Tps H us xs) : Tps H (vs ++ us) (ws ++ xs) := by
  induction h with
  | nil => exact g
  | cons e _ ih => exact .cons e ih
theorem Tps.len {H : Hp} {vs : List V} {ws : List (Str × Bool)} (h : Tps H vs ws) : vs.length = ws.length := by
  induction h with
  | nil => rfl
  | cons _ _ ih => exact congrArg (· + 1) ih
theorem Tps.get {H : Hp} {vs : List V} {ws : List (Str × Bool)} (h : Tps H vs ws) : ∀ {i : Nat} {x : V}, vs[i]? = some x → ∃ t w b, x = .ref t ∧ ws[i]? = some (w, b) ∧ H t = some (.tup [.str w, .bl b]) := by
  induction h with
  | nil => intro i x e; simp at e
  | @cons t w b vs ws ht _ ih =>
    intro i x e
    cases i with
    | zero =>
      have e1 : V.ref t = x := by simpa using e
      exact ⟨t, w, b, e1.symm, rfl, ht⟩
    | succ i =>
      obtain ⟨t', w', b', e1, e2, e3⟩ := ih (i := i) (x := x) (by simpa using e)
      exact ⟨t', w', b', e1, by simpa using e2, e3⟩
def Mk (H : Hp) (l : Addr) (ws : List (Str × Bool)) : Prop := ∃ vs, H l = some (.lst vs) ∧ Tps H vs ws
/-- what the law asks of the classes, for an exception of the class at D: the words by its flags, the one that comes of it -/
structure Tw (K : PySem.W.Frag) (mg : Str → Option Value) (D : Addr) (w0 : Str) : Prop where
  isi : mg "isinstance" = none
  len : mg "len" = none
  ver : mg "ValueError" = none
  vk : PySem.W.kitOne K (.ref D) (.type "ValueError") = some true
  ex : ExcC K D
  kit : ∃ b0 b1 b2 b3 b4 b5 b6 b7 b8 b9 b10 b11 : Bool, (∃ C, mg "NoPicture" = some (.ref C) ∧ PySem.W.kitOne K (.ref D) (.ref C) = some b0) ∧ (∃ C, mg "NoPlace" = some (.ref C) ∧ PySem.W.kitOne K (.ref D) (.ref C) = some b1) ∧ (∃ C, mg "NoShape" = some (.ref C) ∧ PySem.W.kitOne K (.ref D) (.ref C) = some b2) ∧ (∃ C, mg "NoSign" = some (.ref C) ∧ PySem.W.kitOne K (.ref D) (.ref C) = some b3) ∧ (∃ C, mg "NoWord" = some (.ref C) ∧ PySem.W.kitOne K (.ref D) (.ref C) = some b4) ∧ (∃ C, mg "NoLine" = some (.ref C) ∧ PySem.W.kitOne K (.ref D) (.ref C) = some b5) ∧ (∃ C, mg "NoReading" = some (.ref C) ∧ PySem.W.kitOne K (.ref D) (.ref C) = some b6) ∧ (∃ C, mg "NoTable" = some (.ref C) ∧ PySem.W.kitOne K (.ref D) (.ref C) = some b7) ∧ (∃ C, mg "NoDeed" = some (.ref C) ∧ PySem.W.kitOne K (.ref D) (.ref C) = some b8) ∧ (∃ C, mg "NoBack" = some (.ref C) ∧ PySem.W.kitOne K (.ref D) (.ref C) = some b9) ∧ (∃ C, mg "TooMany" = some (.ref C) ∧ PySem.W.kitOne K (.ref D) (.ref C) = some b10) ∧ (∃ C, mg "NoText" = some (.ref C) ∧ PySem.W.kitOne K (.ref D) (.ref C) = some b11) ∧ ([("picture", b0), ("place", b1), ("shape", b2), ("sign", b3), ("word", b4), ("line", b5), ("reading", b6), ("table", b7), ("deed", b8), ("back", b9), ("many", b10), ("text", b11)] : List (Str × Bool)).filter (·.2) = [(w0, true)]
theorem upd_at {H : Hp} {p : Addr} {o : HO} (_ : Same H (upd H p o)) : (upd H p o) p = some o := upd_same
abbrev sWord : Stmt := topS 52
theorem scWord : FnScope ["e", "marks", "met", "word", "is_it"] ["e"] (defScope sWord) := ⟨rfl, rfl, rfl, by decide +kernel, rfl, by decide +kernel, by decide +kernel⟩
def spWord (D : Addr) (w0 : Str) : Sp := fun vs H Q _ => ∃ a, vs = [.ref a] ∧ H a = some (ExI (.ref D) none a) ∧ ∀ H', Same H H' → Q (.str w0) H'
section
variable {P : Program} {w : World} {K : PySem.W.Frag} {mg : Str → Option Value} {base : Heap} {D : Addr} {w0 : Str}
theorem ok_word {f : Addr} {fd : FuncData} {k : Nat} (F : Fun K "_law_word" "_law_word" sWord f fd) (T : Tw K mg D w0) : FnOk P w K mg base CX0 (k + 1) f fd ["e"] (spWord D w0) := by
  refine F.ok scWord (fun vs H Q E h => ?_) (fun cdv A outer s H vs Q E hr h => ?_)
  · obtain ⟨a, rfl, _⟩ := h
    rfl
  · obtain ⟨a, rfl, ha, q⟩ := h
    have nd := scWord.nd
    obtain ⟨b0, b1, b2, b3, b4, b5, b6, b7, b8, b9, b10, b11, ⟨Cc0, g0, k0⟩, ⟨Cc1, g1, k1⟩, ⟨Cc2, g2, k2⟩, ⟨Cc3, g3, k3⟩, ⟨Cc4, g4, k4⟩, ⟨Cc5, g5, k5⟩, ⟨Cc6, g6, k6⟩, ⟨Cc7, g7, k7⟩, ⟨Cc8, g8, k8⟩, ⟨Cc9, g9, k9⟩, ⟨Cc10, g10, k10⟩, ⟨Cc11, g11, k11⟩, hw⟩ := T.kit
    refine ⟨_, C8.pss_cut (ps_set (i := 1) nd rfl (.inl rfl) (pe_lst (pa_cons (pe_tup (pa_cons pe_str (pa_cons (pe_callB call_isX (by rfl) T.isi PyProof.Rows.boot_isinstance (pa_cons (pv 0) (pa_cons (pe_glob (v := .ref Cc0) (by rfl) g0 rfl) pa_nil))) pa_nil))) (pa_cons (pe_tup (pa_cons pe_str (pa_cons (pe_callB call_isX (by rfl) T.isi PyProof.Rows.boot_isinstance (pa_cons (pv 0) (pa_cons (pe_glob (v := .ref Cc1) (by rfl) g1 rfl) pa_nil))) pa_nil))) pa_nil)))) (
      C8.pss_cut (ps_set (i := 1) nd rfl (.inl rfl) (pe_op op_cat (pv 1) (pe_lst (pa_cons (pe_tup (pa_cons pe_str (pa_cons (pe_callB call_isX (by rfl) T.isi PyProof.Rows.boot_isinstance (pa_cons (pv 0) (pa_cons (pe_glob (v := .ref Cc2) (by rfl) g2 rfl) pa_nil))) pa_nil))) pa_nil)))) (
      C8.pss_cut (ps_set (i := 1) nd rfl (.inl rfl) (pe_op op_cat (pv 1) (pe_lst (pa_cons (pe_tup (pa_cons pe_str (pa_cons (pe_callB call_isX (by rfl) T.isi PyProof.Rows.boot_isinstance (pa_cons (pv 0) (pa_cons (pe_glob (v := .ref Cc3) (by rfl) g3 rfl) pa_nil))) pa_nil))) (pa_cons (pe_tup (pa_cons pe_str (pa_cons (pe_callB call_isX (by rfl) T.isi PyProof.Rows.boot_isinstance (pa_cons (pv 0) (pa_cons (pe_glob (v := .ref Cc4) (by rfl) g4 rfl) pa_nil))) pa_nil))) (pa_cons (pe_tup (pa_cons pe_str (pa_cons (pe_callB call_isX (by rfl) T.isi PyProof.Rows.boot_isinstance (pa_cons (pv 0) (pa_cons (pe_glob (v := .ref Cc5) (by rfl) g5 rfl) pa_nil))) pa_nil))) pa_nil)))))) (
      C8.pss_cut (ps_set (i := 1) nd rfl (.inl rfl) (pe_op op_cat (pv 1) (pe_lst (pa_cons (pe_tup (pa_cons pe_str (pa_cons (pe_callB call_isX (by rfl) T.isi PyProof.Rows.boot_isinstance (pa_cons (pv 0) (pa_cons (pe_glob (v := .ref Cc6) (by rfl) g6 rfl) pa_nil))) pa_nil))) (pa_cons (pe_tup (pa_cons pe_str (pa_cons (pe_callB call_isX (by rfl) T.isi PyProof.Rows.boot_isinstance (pa_cons (pv 0) (pa_cons (pe_glob (v := .ref Cc7) (by rfl) g7 rfl) pa_nil))) pa_nil))) pa_nil))))) (
      C8.pss_cut (ps_set (i := 1) nd rfl (.inl rfl) (pe_op op_cat (pv 1) (pe_lst (pa_cons (pe_tup (pa_cons pe_str (pa_cons (pe_callB call_isX (by rfl) T.isi PyProof.Rows.boot_isinstance (pa_cons (pv 0) (pa_cons (pe_glob (v := .ref Cc8) (by rfl) g8 rfl) pa_nil))) pa_nil))) (pa_cons (pe_tup (pa_cons pe_str (pa_cons (pe_callB call_isX (by rfl) T.isi PyProof.Rows.boot_isinstance (pa_cons (pv 0) (pa_cons (pe_glob (v := .ref Cc9) (by rfl) g9 rfl) pa_nil))) pa_nil))) (pa_cons (pe_tup (pa_cons pe_str (pa_cons (pe_callB call_isX (by rfl) T.isi PyProof.Rows.boot_isinstance (pa_cons (pv 0) (pa_cons (pe_glob (v := .ref Cc10) (by rfl) g10 rfl) pa_nil))) pa_nil))) pa_nil)))))) (
      C8.pss_cut (ps_set (i := 1) nd rfl (.inl rfl) (pe_op op_cat (pv 1) (pe_lst (pa_cons (pe_tup (pa_cons pe_str (pa_cons (pe_callB call_isX (by rfl) T.isi PyProof.Rows.boot_isinstance (pa_cons (pv 0) (pa_cons (pe_glob (v := .ref Cc11) (by rfl) g11 rfl) pa_nil))) pa_nil))) pa_nil)))) (
      pss_cons (ps_setLc (i := 2) (own := [("word", 3), ("is_it", 4)]) (g := gTup K 2 (gCons (gName 3) (gCons (gName 4) gNil))) (by rfl) nd rfl rfl (sw_true rfl rfl rfl (by decide +kernel)) (pi_list (pv 1)) (blkOk_by (N := ["e", "marks", "met", "word", "is_it"]) (sc := defScope sWord) (by decide +kernel)) (fun _ _ _ _ _ => pg_tup rfl (pgs_cons (pg_name (i := 3) nd rfl (Or.inl rfl)) (pgs_cons (pg_name (i := 4) nd rfl (Or.inl rfl)) pgs_nil))) (fun _ _ _ _ _ => pts_one (pt_val (pv 4))) (fun _ _ _ _ _ => pv 3)) (
      pss_one (ps_ret (pe_ifExp (PW.pt (pw_and (pt_cmpR op_eq (pe_callB call_len_seq (by rfl) T.len PySem.boot_len (pa_cons (pv 2) pa_nil)) pe_int (nomark _)) (pw_and1 (pt_val (pe_callB call_isX (by rfl) T.isi PyProof.Rows.boot_isinstance (pa_cons (pv 0) (pa_cons (pe_bltn (v := .ty "ValueError") (u := .type "ValueError") (by rfl) T.ver (by decide +kernel) rfl) pa_nil))))))) (pe_ix ix_list (pv 2) pe_int (fun _ _ => rfl)) pe_str))))))))), ?_⟩
    refine ⟨fun σ' H' => ∃ l, σ' = [some (.ref a), some (.ref l), none, none, none] ∧ Same H H' ∧ Mk H' l [("picture", b0), ("place", b1)], ?_, ?_⟩
    · have ha0 : H a = some (ExI (.ref D) none a) := ha
      have S0 : Same H H := Same.refl _
      refine ⟨.ref a, rfl, a, D, .ref Cc0, .ref Cc0, b0, rfl, ha0, T.ex, (fun u r => r), k0, by show 2 ≤ sizeLine; decide, fun t0 ht0 => ?_⟩
      have s0 := same_upd (o := .tup [V.str "picture", V.bl b0]) ht0
      have S1 := S0.trans s0
      have ha1 := s0 _ _ ha0
      have f0 := upd_at (o := .tup [V.str "picture", V.bl b0]) s0
      refine ⟨.ref a, rfl, a, D, .ref Cc1, .ref Cc1, b1, rfl, ha1, T.ex, (fun u r => r), k1, by show 2 ≤ sizeLine; decide, fun t1 ht1 => ?_⟩
      have s1 := same_upd (o := .tup [V.str "place", V.bl b1]) ht1
      have S2 := S1.trans s1
      have ha2 := s1 _ _ ha1
      have f0 := s1 _ _ f0
      have f1 := upd_at (o := .tup [V.str "place", V.bl b1]) s1
      refine ⟨by show 2 ≤ sizeLine; decide, fun l hl => ?_⟩
      have sl := same_upd (o := .lst [.ref t0, .ref t1]) hl
      have tl : Tps _ [.ref t0, .ref t1] [("picture", b0), ("place", b1)] := .cons (sl _ _ f0) (.cons (sl _ _ f1) (.nil))
      have ll := upd_at (o := .lst [.ref t0, .ref t1]) sl
      exact ⟨l, rfl, S2.trans sl, _, ll, tl⟩
    · rintro _ G1 ⟨l1, rfl, sm1, vs1, hv1, tp1⟩
      refine ⟨fun σ' H' => ∃ l, σ' = [some (.ref a), some (.ref l), none, none, none] ∧ Same H H' ∧ Mk H' l [("picture", b0), ("place", b1), ("shape", b2)], ?_, ?_⟩
      · have ha0 : G1 a = some (ExI (.ref D) none a) := sm1 _ _ ha
        have S0 : Same G1 G1 := Same.refl _
        refine ⟨.ref l1, rfl, .ref a, rfl, a, D, .ref Cc2, .ref Cc2, b2, rfl, ha0, T.ex, (fun u r => r), k2, by show 2 ≤ sizeLine; decide, fun t2 ht2 => ?_⟩
        have s2 := same_upd (o := .tup [V.str "shape", V.bl b2]) ht2
        have S1 := S0.trans s2
        have ha1 := s2 _ _ ha0
        have f2 := upd_at (o := .tup [V.str "shape", V.bl b2]) s2
        refine ⟨by show 1 ≤ sizeLine; decide, fun l hl => ?_⟩
        have sl := same_upd (o := .lst [.ref t2]) hl
        have tl : Tps _ [.ref t2] [("shape", b2)] := .cons (sl _ _ f2) (.nil)
        have ll := upd_at (o := .lst [.ref t2]) sl
        have hl0 := sl _ _ (S1 _ _ hv1)
        have tp0 := (tp1.same S1).same sl
        have ln0 := tp0.len
        refine ⟨l1, l, _, _, rfl, rfl, hl0, ll, ?_, fun p hp => ?_⟩
        · rw [ln0]
          show 3 ≤ sizeLine
          decide
        · have sp := same_upd (o := .lst (vs1 ++ [.ref t2])) hp
          exact ⟨p, rfl, ((sm1.trans S1).trans sl).trans sp, _, upd_at sp, (tp0.app tl).same sp⟩
      · rintro _ G2 ⟨l2, rfl, sm2, vs2, hv2, tp2⟩
        refine ⟨fun σ' H' => ∃ l, σ' = [some (.ref a), some (.ref l), none, none, none] ∧ Same H H' ∧ Mk H' l [("picture", b0), ("place", b1), ("shape", b2), ("sign", b3), ("word", b4), ("line", b5)], ?_, ?_⟩
        · have ha0 : G2 a = some (ExI (.ref D) none a) := sm2 _ _ ha
          have S0 : Same G2 G2 := Same.refl _
          refine ⟨.ref l2, rfl, .ref a, rfl, a, D, .ref Cc3, .ref Cc3, b3, rfl, ha0, T.ex, (fun u r => r), k3, by show 2 ≤ sizeLine; decide, fun t3 ht3 => ?_⟩
          have s3 := same_upd (o := .tup [V.str "sign", V.bl b3]) ht3
          have S1 := S0.trans s3
          have ha1 := s3 _ _ ha0
          have f3 := upd_at (o := .tup [V.str "sign", V.bl b3]) s3
          refine ⟨.ref a, rfl, a, D, .ref Cc4, .ref Cc4, b4, rfl, ha1, T.ex, (fun u r => r), k4, by show 2 ≤ sizeLine; decide, fun t4 ht4 => ?_⟩
          have s4 := same_upd (o := .tup [V.str "word", V.bl b4]) ht4
          have S2 := S1.trans s4
          have ha2 := s4 _ _ ha1
          have f3 := s4 _ _ f3
          have f4 := upd_at (o := .tup [V.str "word", V.bl b4]) s4
          refine ⟨.ref a, rfl, a, D, .ref Cc5, .ref Cc5, b5, rfl, ha2, T.ex, (fun u r => r), k5, by show 2 ≤ sizeLine; decide, fun t5 ht5 => ?_⟩
          have s5 := same_upd (o := .tup [V.str "line", V.bl b5]) ht5
          have S3 := S2.trans s5
          have ha3 := s5 _ _ ha2
          have f3 := s5 _ _ f3
          have f4 := s5 _ _ f4
          have f5 := upd_at (o := .tup [V.str "line", V.bl b5]) s5
          refine ⟨by show 3 ≤ sizeLine; decide, fun l hl => ?_⟩
          have sl := same_upd (o := .lst [.ref t3, .ref t4, .ref t5]) hl
          have tl : Tps _ [.ref t3, .ref t4, .ref t5] [("sign", b3), ("word", b4), ("line", b5)] := .cons (sl _ _ f3) (.cons (sl _ _ f4) (.cons (sl _ _ f5) (.nil)))
          have ll := upd_at (o := .lst [.ref t3, .ref t4, .ref t5]) sl
          have hl0 := sl _ _ (S3 _ _ hv2)
          have tp0 := (tp2.same S3).same sl
          have ln0 := tp0.len
          refine ⟨l2, l, _, _, rfl, rfl, hl0, ll, ?_, fun p hp => ?_⟩
          · rw [ln0]
            show 6 ≤ sizeLine
            decide
          · have sp := same_upd (o := .lst (vs2 ++ [.ref t3, .ref t4, .ref t5])) hp
            exact ⟨p, rfl, ((sm2.trans S3).trans sl).trans sp, _, upd_at sp, (tp0.app tl).same sp⟩
        · rintro _ G3 ⟨l3, rfl, sm3, vs3, hv3, tp3⟩
          refine ⟨fun σ' H' => ∃ l, σ' = [some (.ref a), some (.ref l), none, none, none] ∧ Same H H' ∧ Mk H' l [("picture", b0), ("place", b1), ("shape", b2), ("sign", b3), ("word", b4), ("line", b5), ("reading", b6), ("table", b7)], ?_, ?_⟩
          · have ha0 : G3 a = some (ExI (.ref D) none a) := sm3 _ _ ha
            have S0 : Same G3 G3 := Same.refl _
            refine ⟨.ref l3, rfl, .ref a, rfl, a, D, .ref Cc6, .ref Cc6, b6, rfl, ha0, T.ex, (fun u r => r), k6, by show 2 ≤ sizeLine; decide, fun t6 ht6 => ?_⟩
            have s6 := same_upd (o := .tup [V.str "reading", V.bl b6]) ht6
            have S1 := S0.trans s6
            have ha1 := s6 _ _ ha0
            have f6 := upd_at (o := .tup [V.str "reading", V.bl b6]) s6
            refine ⟨.ref a, rfl, a, D, .ref Cc7, .ref Cc7, b7, rfl, ha1, T.ex, (fun u r => r), k7, by show 2 ≤ sizeLine; decide, fun t7 ht7 => ?_⟩
            have s7 := same_upd (o := .tup [V.str "table", V.bl b7]) ht7
            have S2 := S1.trans s7
            have ha2 := s7 _ _ ha1
            have f6 := s7 _ _ f6
            have f7 := upd_at (o := .tup [V.str "table", V.bl b7]) s7
            refine ⟨by show 2 ≤ sizeLine; decide, fun l hl => ?_⟩
            have sl := same_upd (o := .lst [.ref t6, .ref t7]) hl
            have tl : Tps _ [.ref t6, .ref t7] [("reading", b6), ("table", b7)] := .cons (sl _ _ f6) (.cons (sl _ _ f7) (.nil))
            have ll := upd_at (o := .lst [.ref t6, .ref t7]) sl
            have hl0 := sl _ _ (S2 _ _ hv3)
            have tp0 := (tp3.same S2).same sl
            have ln0 := tp0.len
            refine ⟨l3, l, _, _, rfl, rfl, hl0, ll, ?_, fun p hp => ?_⟩
            · rw [ln0]
              show 8 ≤ sizeLine
              decide
            · have sp := same_upd (o := .lst (vs3 ++ [.ref t6, .ref t7])) hp
              exact ⟨p, rfl, ((sm3.trans S2).trans sl).trans sp, _, upd_at sp, (tp0.app tl).same sp⟩
          · rintro _ G4 ⟨l4, rfl, sm4, vs4, hv4, tp4⟩
            refine ⟨fun σ' H' => ∃ l, σ' = [some (.ref a), some (.ref l), none, none, none] ∧ Same H H' ∧ Mk H' l [("picture", b0), ("place", b1), ("shape", b2), ("sign", b3), ("word", b4), ("line", b5), ("reading", b6), ("table", b7), ("deed", b8), ("back", b9), ("many", b10)], ?_, ?_⟩
            · have ha0 : G4 a = some (ExI (.ref D) none a) := sm4 _ _ ha
              have S0 : Same G4 G4 := Same.refl _
              refine ⟨.ref l4, rfl, .ref a, rfl, a, D, .ref Cc8, .ref Cc8, b8, rfl, ha0, T.ex, (fun u r => r), k8, by show 2 ≤ sizeLine; decide, fun t8 ht8 => ?_⟩
              have s8 := same_upd (o := .tup [V.str "deed", V.bl b8]) ht8
              have S1 := S0.trans s8
              have ha1 := s8 _ _ ha0
              have f8 := upd_at (o := .tup [V.str "deed", V.bl b8]) s8
              refine ⟨.ref a, rfl, a, D, .ref Cc9, .ref Cc9, b9, rfl, ha1, T.ex, (fun u r => r), k9, by show 2 ≤ sizeLine; decide, fun t9 ht9 => ?_⟩
              have s9 := same_upd (o := .tup [V.str "back", V.bl b9]) ht9
              have S2 := S1.trans s9
              have ha2 := s9 _ _ ha1
              have f8 := s9 _ _ f8
              have f9 := upd_at (o := .tup [V.str "back", V.bl b9]) s9
              refine ⟨.ref a, rfl, a, D, .ref Cc10, .ref Cc10, b10, rfl, ha2, T.ex, (fun u r => r), k10, by show 2 ≤ sizeLine; decide, fun t10 ht10 => ?_⟩
              have s10 := same_upd (o := .tup [V.str "many", V.bl b10]) ht10
              have S3 := S2.trans s10
              have ha3 := s10 _ _ ha2
              have f8 := s10 _ _ f8
              have f9 := s10 _ _ f9
              have f10 := upd_at (o := .tup [V.str "many", V.bl b10]) s10
              refine ⟨by show 3 ≤ sizeLine; decide, fun l hl => ?_⟩
              have sl := same_upd (o := .lst [.ref t8, .ref t9, .ref t10]) hl
              have tl : Tps _ [.ref t8, .ref t9, .ref t10] [("deed", b8), ("back", b9), ("many", b10)] := .cons (sl _ _ f8) (.cons (sl _ _ f9) (.cons (sl _ _ f10) (.nil)))
              have ll := upd_at (o := .lst [.ref t8, .ref t9, .ref t10]) sl
              have hl0 := sl _ _ (S3 _ _ hv4)
              have tp0 := (tp4.same S3).same sl
              have ln0 := tp0.len
              refine ⟨l4, l, _, _, rfl, rfl, hl0, ll, ?_, fun p hp => ?_⟩
              · rw [ln0]
                show 11 ≤ sizeLine
                decide
              · have sp := same_upd (o := .lst (vs4 ++ [.ref t8, .ref t9, .ref t10])) hp
                exact ⟨p, rfl, ((sm4.trans S3).trans sl).trans sp, _, upd_at sp, (tp0.app tl).same sp⟩
            · rintro _ G5 ⟨l5, rfl, sm5, vs5, hv5, tp5⟩
              refine ⟨fun σ' H' => ∃ l, σ' = [some (.ref a), some (.ref l), none, none, none] ∧ Same H H' ∧ Mk H' l [("picture", b0), ("place", b1), ("shape", b2), ("sign", b3), ("word", b4), ("line", b5), ("reading", b6), ("table", b7), ("deed", b8), ("back", b9), ("many", b10), ("text", b11)], ?_, ?_⟩
              · have ha0 : G5 a = some (ExI (.ref D) none a) := sm5 _ _ ha
                have S0 : Same G5 G5 := Same.refl _
                refine ⟨.ref l5, rfl, .ref a, rfl, a, D, .ref Cc11, .ref Cc11, b11, rfl, ha0, T.ex, (fun u r => r), k11, by show 2 ≤ sizeLine; decide, fun t11 ht11 => ?_⟩
                have s11 := same_upd (o := .tup [V.str "text", V.bl b11]) ht11
                have S1 := S0.trans s11
                have ha1 := s11 _ _ ha0
                have f11 := upd_at (o := .tup [V.str "text", V.bl b11]) s11
                refine ⟨by show 1 ≤ sizeLine; decide, fun l hl => ?_⟩
                have sl := same_upd (o := .lst [.ref t11]) hl
                have tl : Tps _ [.ref t11] [("text", b11)] := .cons (sl _ _ f11) (.nil)
                have ll := upd_at (o := .lst [.ref t11]) sl
                have hl0 := sl _ _ (S1 _ _ hv5)
                have tp0 := (tp5.same S1).same sl
                have ln0 := tp0.len
                refine ⟨l5, l, _, _, rfl, rfl, hl0, ll, ?_, fun p hp => ?_⟩
                · rw [ln0]
                  show 12 ≤ sizeLine
                  decide
                · have sp := same_upd (o := .lst (vs5 ++ [.ref t11])) hp
                  exact ⟨p, rfl, ((sm5.trans S1).trans sl).trans sp, _, upd_at sp, (tp0.app tl).same sp⟩
              · rintro _ G6 ⟨l6, rfl, sm6, vs6, hv6, tp6⟩
                have ln := tp6.len
                have ln' : vs6.length = 12 := ln
                refine ⟨.ref l6, rfl, l6, rfl, ⟨_, SqL.of hv6⟩, fun Dd hDd => lc_list (K := K) (a := l6) (xs := vs6) (fun i H2 => Same G6 H2 ∧ H2 Dd = some (.lst (((([("picture", b0), ("place", b1), ("shape", b2), ("sign", b3), ("word", b4), ("line", b5), ("reading", b6), ("table", b7), ("deed", b8), ("back", b9), ("many", b10), ("text", b11)] : List (Str × Bool)).take i).filter (·.2)).map fun p => V.str p.1))) ⟨same_upd hDd, upd_same⟩ (fun i H2 _ z => SqL.of (z.1 _ _ hv6)) ?_ ?_⟩
                · rintro i x H2 hi ⟨sm, h2⟩
                  obtain ⟨t, w1, b1, rfl, hw1, ht⟩ := tp6.get hi
                  have hil : i < 12 := by
                    rcases Nat.lt_or_ge i vs6.length with z | z
                    · omega
                    · rw [List.getElem?_eq_none z] at hi
                      cases hi
                  refine ⟨t, [.str w1, .bl b1], rfl, SqT.of (sm _ _ ht), rfl, .str w1, [.bl b1], rfl, .bl b1, [], rfl, rfl, rfl, .bl b1, rfl, b1, rfl, ?_⟩
                  have tk := take_snoc hw1
                  cases b1 with
                  | false =>
                    refine iteF ⟨sm, ?_⟩
                    rw [tk, List.filter_append, List.map_append]
                    simpa using h2
                  | true =>
                    refine iteT ⟨.str w1, rfl, _, h2, ?_, ?_, ?_⟩
                    · rw [List.length_map]
                      refine Nat.lt_of_le_of_lt (List.length_filter_le _ _) ?_
                      rw [List.length_take]
                      exact small1000 (by omega)
                    · exact fun b o e => by
                        rw [upd_ne (ne_of_none e hDd)]
                        exact sm _ _ e
                    · rw [upd_same, tk, List.filter_append, List.map_append]
                      rfl
                · rintro H2 ⟨sm, h2⟩
                  have e12 : (([("picture", b0), ("place", b1), ("shape", b2), ("sign", b3), ("word", b4), ("line", b5), ("reading", b6), ("table", b7), ("deed", b8), ("back", b9), ("many", b10), ("text", b11)] : List (Str × Bool)).take vs6.length) = ([("picture", b0), ("place", b1), ("shape", b2), ("sign", b3), ("word", b4), ("line", b5), ("reading", b6), ("table", b7), ("deed", b8), ("back", b9), ("many", b10), ("text", b11)] : List (Str × Bool)) := by
                    rw [ln']
                    rfl
                  rw [e12, hw] at h2
                  refine ⟨.ref Dd, rfl, Dd, _, rfl, .inl (SqL.of h2), rfl, _, rfl, iteT ?_⟩
                  refine ⟨.ref a, rfl, a, D, .ty "ValueError", .type "ValueError", true, rfl, (sm6.trans sm) _ _ ha, T.ex, (fun u r => r), T.vk, true, rfl, iteT ?_⟩
                  exact ⟨.ref Dd, rfl, Dd, _, 0, .str w0, rfl, rfl, SqL.of h2, atI_nat (j := 0) rfl, q _ (sm6.trans sm)⟩
end
end Dt
/-! lambdas as values: made, kept under watch, called through a def -/
namespace L2X
open PySem PySem.Spec PyProof.Rows L2 LamX
/-- the lambda of these cells stands at f, its code at c -/
def CloO (q : Str) (pr : Arguments) (body : Expr) (sc : Scope) (cl : List (Str × Addr)) (c f : Addr) : HO :=
  .ext fun h => ∃ pm ctv, h.get? f = some (PySem.W.kla_obj "<lambda>" q pr body sc cl pm c ctv)
theorem cloO_ok {P : Program} {w : World} {H : Hp} {h : Heap} {q : Str} {pr : Arguments} {body : Expr} {sc : Scope} {cl : List (Str × Addr)} {c f : Addr} {pm ctv : Value}
    (e : h.get? f = some (PySem.W.kla_obj "<lambda>" q pr body sc cl pm c ctv)) : ObjOk P w H h f (CloO q pr body sc cl c f) := by
  refine ⟨⟨pm, ctv, e⟩, ⟨_, e⟩, ?_⟩
  rintro h1 h2 ⟨pm', ctv', e'⟩ k
  exact ⟨pm', ctv', k _ e'⟩
section
variable {X : Cx}
def lamQ (X : Cx) : Str := X.env.qual ++ "<lambda>"
/-- what the making of a lambda asks, and what comes of it -/
def tLamV (T : List (Addr × Str)) (X : Cx) (pr : Arguments) (body : Expr) (sc : Scope) : TE := fun _ H Q =>
  Tabs T H ∧ ∀ (f c : Addr) (H1 : Hp), ExtN H H1 → Tabs T H1 → H1 c = some (CodeO c (lamQ X)) → H1 f = none → H f = none →
    (∀ b q' pr' body' sc' cl' c', H1 b = some (CloO q' pr' body' sc' cl' c' b) → c ≠ b) → Q (.ref f) (upd H1 f (CloO (lamQ X) pr body sc (cloFrom X.env.cells sc.names []) c f))
theorem pe_lamV {T : List (Addr × Str)} {c P : Addr} {pr : Arguments} {body : Expr} {sc : Scope} {pos : Pos} (TB : TabB X.base X.mg c P) (hcode : X.env.code = .ref c) (hm : (P, lamQ X) ∈ T)
    (hu : ∀ p ∈ T, p.1 = P → p.2 = lamQ X) (L : LamS X.env.scope sc) (hdef : defaultsOf pr X.env = ([], [])) : PE X (.Lambda pr body sc pos) (tLamV T X pr body sc) := by
  constructor
  rintro pins s σ H Q I ⟨hT, h⟩
  obtain ⟨ps, hP, trip, known⟩ := hT _ hm
  have clOk := closure_ok (L.has I.ok)
  have globs : s.heap.Ns mainGlobals X.mg := I.mod.glob.keeps I.bk
  have code0 := TB.code.keeps I.bk
  have blt0 : s.heap.BuiltinsAt X.mg P := TB.bm.keeps I.bk
  have atP : s.heap.get? P = some { cls := .none, data := .fields ps } := I.hok P _ hP
  -- the end of both ways: the def object is new
  have fin : ∀ (h' : Heap) (tk : Nat) (c' : Addr) (pm ctv : Value) (H1 : Hp), s.heap.objs.size ≤ h'.objs.size →
      Inv X pins σ H1 { s with heap := h'.push (PySem.W.kla_obj "<lambda>" (lamQ X) pr body sc (cloFrom X.env.cells sc.names []) pm c' ctv), toks := tk } →
      ExtN H H1 → Tabs T H1 → H1 c' = some (CodeO c' (lamQ X)) → H1 h'.objs.size = none →
      EP X pins σ Q (.ref h'.objs.size) { s with heap := h'.push (PySem.W.kla_obj "<lambda>" (lamQ X) pr body sc (cloFrom X.env.cells sc.names []) pm c' ctv), toks := tk } := by
    intro h' tk c' pm ctv H1 big J ext tabs hc n1
    have got : (h'.push (PySem.W.kla_obj "<lambda>" (lamQ X) pr body sc (cloFrom X.env.cells sc.names []) pm c' ctv)).get? h'.objs.size = _ := Heap.get?_push_size _ rfl
    have older : ∀ {b : Addr} {o : Obj}, s.heap.get? b = some o → b ≠ h'.objs.size := fun e => Nat.ne_of_lt (Nat.lt_of_lt_of_le (Heap.lt_size e) big)
    have n0 : X.s_0.heap.get? h'.objs.size = none := Heap.get?_none_of_le (Nat.le_trans I.sz big)
    have nL : h'.objs.size ≠ X.env.locals := Nat.ne_of_gt (Nat.lt_of_lt_of_le I.lt big)
    have np : ∀ p ∈ X.pn ++ pins, p.1 ≠ h'.objs.size := fun p hp => older (I.pin p hp).1
    have apart : ∀ b q' pr' body' sc' cl' c2, H1 b = some (CloO q' pr' body' sc' cl' c2 b) → c' ≠ b := by
      rintro b q' pr' body' sc' cl' c2 hb rfl
      obtain ⟨⟨pm2, ct2, e1⟩, _⟩ := J.hok c' _ hb
      obtain ⟨⟨oc, vs, t, e2, e3, _⟩, _⟩ := J.hok c' _ hc
      rw [e1] at e2
      cases e2
      cases e3
    refine ⟨.ref h'.objs.size, _, adopt J got (fun v z => ?_) n1 nL n0 np (cloO_ok got), rfl, h _ c' H1 ext tabs hc n1 (I.hok.fresh big) apart⟩
    cases z
  refine PySem.W.kla_eval hdef ?_
  cases among : codeAmong pos ps.toList with
  | some cv =>
    obtain ⟨c', rfl, hc'⟩ := known pos cv among
    refine PySem.W.kla_makeFunctionHit (mg := X.mg) (c := c) (P := P) (ps := ps) clOk I.ok.glob globs hcode code0 atP trip among blt0 ?_
    intro ctv h' tk keeps big
    exact fin h' tk c' _ ctv H big (I.kept fun b o e => Heap.get?_push_of_some _ (keeps b o e)) (ExtN.refl H) hT hc' (I.hok.fresh big)
  | none =>
    refine PySem.W.kla_makeFunction (mg := X.mg) (c := c) (P := P) (ps := ps) clOk I.ok.glob globs hcode code0 atP trip among TB.gP blt0 ?_
    intro c' ctv h' tk keeps ge lt rec tab
    obtain ⟨c2, oc, vs, t, e2, hoc, hd, hv⟩ := rec
    cases e2
    have big : s.heap.objs.size ≤ h'.objs.size := Nat.le_of_lt (Nat.lt_of_le_of_lt ge lt)
    have nc : H c' = none := I.hok.fresh ge
    have nPc : P ≠ c' := ne_of_none hP nc
    have J := inv_table (t' := tk) (more := #[rawInt pos.line, rawInt pos.col, .ref c']) (q := lamQ X) I hP
      (h' := h'.push (PySem.W.kla_obj "<lambda>" (lamQ X) pr body sc (cloFrom X.env.cells sc.names []) ((X.mg "__name__").getD .none) c' ctv))
      (fun b o hb e => Heap.get?_push_of_some _ (keeps b o hb e)) (Heap.get?_push_of_some _ tab) ge ⟨oc, vs, t, Heap.get?_push_of_some _ hoc, hd, hv⟩
    have ext : ExtN H (upd (upd H P (.tbl (ps ++ #[rawInt pos.line, rawInt pos.col, .ref c']))) c' (CodeO c' (lamQ X))) := by
      intro b o e notTab
      have nb : b ≠ P := by
        rintro rfl
        rw [hP] at e
        cases e
        exact notTab ps rfl
      rw [upd_ne (ne_of_none e nc), upd_ne nb]
      exact e
    have lst : (ps ++ #[rawInt pos.line, rawInt pos.col, .ref c']).toList = ps.toList ++ [rawInt pos.line, rawInt pos.col, .ref c'] := by simp
    refine fin h' tk c' _ ctv _ big J ext ?_ upd_same ?_
    · intro p hp
      by_cases hb : p.1 = P
      · refine ⟨ps ++ #[rawInt pos.line, rawInt pos.col, .ref c'], ?_, ?_, ?_⟩
        · rw [hb, upd_ne nPc, upd_same]
        · rw [lst]
          exact PySem.TriplesOk_snoc _ _ _ _ trip
        · intro p' cv hcv
          rw [hu p hp hb]
          rw [lst] at hcv
          cases among_app _ trip hcv with
          | inl z =>
            obtain ⟨c0, e1, e2⟩ := known p' cv z
            exact ⟨c0, e1, ext _ _ e2 codeO_ne⟩
          | inr z => exact ⟨c', z, upd_same⟩
      · obtain ⟨ps', a1, a2, a3⟩ := hT p hp
        refine ⟨ps', ?_, a2, ?_⟩
        · rw [upd_ne (ne_of_none a1 nc), upd_ne hb]
          exact a1
        · intro p' cv hcv
          obtain ⟨c0, e1, e2⟩ := a3 p' cv hcv
          exact ⟨c0, e1, ext _ _ e2 codeO_ne⟩
    · have n1 : h'.objs.size ≠ c' := Nat.ne_of_gt lt
      have n2 : h'.objs.size ≠ P := Nat.ne_of_gt (Nat.lt_of_lt_of_le (Heap.lt_size atP) big)
      rw [upd_ne n1, upd_ne n2]
      exact I.hok.fresh big
/-- a def that calls what it gets, a; TT: what it makes of the lambda's reading (with room for calls of its own) -/
def GivesR (X : Cx) (k : Nat) (Ng : List Str) (x : Str) (sg : Scope) (g : Addr) (cdg : Value) (bg : List Stmt) (a : Str) (q : Str) (TT : (XK → Hp → VK → Prop) → Hp → VK → Prop) : Prop :=
  ∀ (f c : Addr) (s : Shared) (H : Hp) (Q : VK) (tl : XK → Hp → VK → Prop), Room k (X.A.deeper (envOfC x sg s.heap.objs.size g cdg)) →
    (∀ (W : WX) (pn : List (Addr × Obj)) (xe : Value → Shared → Prop) (E : XK) (q1 q2 : Pos),
      Takes ((cxOf L2.CX0 X.prog X.w X.K X.mg X.base Ng x sg g cdg X.A X.stack s H L2.E0).tr pn xe) W → (∀ cls d σ' H', E cls d H' → W cls d σ' H') →
      PE ((cxOf L2.CX0 X.prog X.w X.K X.mg X.base Ng x sg g cdg X.A X.stack s H L2.E0).tr pn xe) (.Call (.Name a q1) [] [] q2)
        (fun σZ HZ Q => σZ[0]? = some (some (.ref f)) ∧ HZ c = some (CodeO c q) ∧ tl E HZ Q)) →
    H c = some (CodeO c q) → TT tl H Q →
    ∃ t, PSs (cxOf L2.CX0 X.prog X.w X.K X.mg X.base Ng x sg g cdg X.A X.stack s H L2.E0).nox bg t ∧ t { nx := fun _ H' => Q .non H', rt := Q } (L2.start Ng [.ref f]) H
/-- f(w) in a comprehension's block, w one of the frame's own lambdas, f a def that calls what it gets: the reading -/
def tCloCall {ι : Type} (X : Cx) (iw : Nat) (pr : ι → Arguments) (body : ι → Expr) (sc : ι → Scope) (t : ι → XK → TE) (TT : (XK → Hp → VK → Prop) → Hp → VK → Prop) (σ0 : L2.St) : TE := fun τ H Q =>
  ∃ (j : ι) (f c : Addr), τ[iw]? = some (some (.ref f)) ∧ H f = some (CloO (lamQ X) (pr j) (body j) (sc j) (cloFrom X.env.cells (sc j).names []) c f) ∧ H c = some (CodeO c (lamQ X)) ∧ c ≠ f ∧
    TT (fun E H' Q' => t j E σ0 H' Q') (delH H f) Q
theorem pe_clocall {ι : Type} {pins : List (Addr × Obj)} {σ0 : L2.St} {s1 : Shared} {H1 : Hp} {csc : Scope} {L : Addr} {cl : List (Str × Addr)} {fp : List Addr} (I1 : Inv X pins σ0 H1 s1) (hfp : ∀ b ∈ fp, FpOk X pins H1 b)
    {pr : ι → Arguments} {body : ι → Expr} {sc : ι → Scope} {t : ι → XK → TE} {TT : (XK → Hp → VK → Prop) → Hp → VK → Prop} {iw : Nat} {x a y : Str} {g : Addr} {k : Nat} {pg : Arguments} {bg : List Stmt} {sg : Scope} {dV kV doc pm cdv ct oc : Value} {an od : Option Addr}
    {osl : Array (Option Value)} {Ng : List Str} {p p' pos : Pos}
    (hg : Gl (Bk X csc s1 H1 L cl fp) x) (hm : X.mg x = some (.ref g)) (hk : PySem.W.keepIn X.K (.ref g) = true)
    (lk : X.K.lookup g = some ⟨oc, od, .func (PySem.W.fnOf x x pg bg sg dV kV doc pm an cdv ct), osl⟩) (hcg : PySem.W.codeIn X.K cdv x = true) (hb : L2.Binds X.K (PySem.W.fnOf x x pg bg sg dV kV doc pm an cdv ct) [a] [])
    (Sg : FnScope Ng [a] sg) (hNg : Ng[0]? = some a) (hva : Vis sg a) (hG : GivesR X (k + 1) Ng x sg g cdv bg a (lamQ X) TT) (hr : Room (k + 2) X.A)
    (hL : ∀ j, LamS X.env.scope (sc j)) (hbind : ∀ (j : ι) (q : Str) (cl : List (Str × Addr)) (pm cv ctv : Value), bindArgs (PySem.W.kla_fn "<lambda>" q (pr j) (body j) (sc j) cl pm cv ctv) ⟨[], []⟩ = pure [])
    (hbody : ∀ (j : ι) (A : Around) (outer : List Env) (s : Shared) (H : Hp) (E : XK) (f c : Addr), Room k (A.deeper (lamEnv X (sc j) s.heap.objs.size f c)) → PE (lamCx X A outer s H E (sc j) f c) (body j) (t j E))
    (hw : PE (Bk X csc s1 H1 L cl fp) (.Name y p') (tVar iw))
    (hdb : (x == ("__debug__" : Str)) = false := by decide) (hd : (a == ("__debug__" : Str)) = false := by decide) (hcd : (a == ("__classdict__" : Str)) = false := by decide) :
    PE (Bk X csc s1 H1 L cl fp) (.Call (.Name x p) [.Name y p'] [] pos) (tCloCall X iw pr body sc t TT σ0) := by
  constructor
  rintro pj s τ H Q B ⟨j, f, c, slot, clo, code, neC, h⟩
  refine wpAny_Call_Name_kw (ld_glob B hg hm ?_ hdb)
  have args : PA (Bk X csc s1 H1 L cl fp) [.Name y p'] (tCons (tVar iw) tNil) := pa_cons hw pa_nil
  refine PySem.W.callWith_K (h₀ := X.base) B.ok.mod.kin hk (thn (args.run pos pj s τ H (fun vs G => vs = [.ref f] ∧ G = H) B ⟨.ref f, slot, rfl, rfl⟩) ?_) (by rfl) (by rfl)
  rintro us s2 ⟨vs, G, B2, rel, rfl, rfl⟩
  refine ⟨B2.kIn, ?_⟩
  cases rel with
  | cons r0 rn =>
    cases rn
    cases r0
    have B3 := letgo B2 clo
    obtain ⟨⟨pm', ctv', got⟩, _⟩ := B2.hok f _ clo
    have offF : f ∉ frs X.stack := by
      intro hm'
      have z := B2.stkFree f hm'
      rw [clo] at z
      cases z
    have Iout : Inv X pins σ0 (delH G f) s2 := out_of I1 hfp B3
    have rc : codeAny (model X.prog X.w) X.A (.call (.ref g) ⟨[.ref f], []⟩) (CR L2.CX0 X.stack X.prog X.w (delH G f) s2 Q L2.E0) s2 := by
      refine run_ofS (N := Ng) (ps := [a]) (us := [.ref f]) (vs := [.ref f]) lk hcg Sg hr B3.env0 (hb s2 [.ref f] B3.kIn rfl) (.cons rfl .nil) rfl ?_
      intro hr'
      obtain ⟨t', ht', hq'⟩ := hG f c s2 (delH G f) Q (fun E H' Q' => t j E σ0 H' Q') hr'
        (fun W pn xe E q1 q2 tk hW => pe_act (i := 0) Iout (hL j) got delH_same offF (hbind j _ _ _ _ _) tk hW hr' (fun A outer s H hr2 => hbody j A outer s H E f c hr2) hNg hva hd hcd)
        (by rw [delH_ne neC]; exact code) h
      exact ⟨t', ht'.nox, hq'⟩
    refine wpAny_call (codeAny_mono rc ?_)
    rintro r s3 hq
    cases r with
    | error e => exact (show False from hq).elim
    | ok fl =>
      cases fl with
      | ret u => exact B3.after hq
      | next => exact False.elim hq
      | brk => exact False.elim hq
      | cont => exact False.elim hq
end
end L2X
namespace Dt
open PySem PySem.Spec PyProof.Rows L2 L2X LamX
theorem takesLen {X : Cx} {W : WX} (tk : Takes X W) : Takes X (fun cls d σ H => σ.length = X.N.length → W cls d σ H) := by
  rintro u s' ⟨a, B, sI, pins, σ, H, cls, d, e, I, nb, up, sky, na, os, ag, w⟩
  exact tk u s' ⟨a, B, sI, pins, σ, H, cls, d, e, I, nb, up, sky, na, os, ag, w I.len⟩
abbrev sRef : Stmt := topS 53
theorem scRef : FnScope ["work", "error", "e"] ["work"] (defScope sRef) := ⟨rfl, rfl, rfl, by decide +kernel, rfl, by decide +kernel, by decide +kernel⟩
/-- what _law_refused makes of a work that is refused by the class at D: the word w0 -/
def TRef (D : Addr) (w0 : Str) : (XK → Hp → VK → Prop) → Hp → VK → Prop := fun tl H Q => ∀ R : VK,
  tl (fun cls d H' => cls = .ref D ∧ d = none ∧ ∀ H'', Same H' H'' → Q (.str w0) H'') H R
theorem ref_gives {X : Cx} {k : Nat} {q w0 : Str} {g fW CD D : Addr} {fdW : FuncData} {cdg : Value}
    (GW : FnOk X.prog X.w X.K X.mg X.base CX0 (k + 1) fW fdW ["e"] (spWord D w0)) (mW : X.mg "_law_word" = some (.ref fW)) (kW : PySem.W.keepIn X.K (.ref fW) = true) (bW : Binds X.K fdW ["e"] [])
    (mD : X.mg "DotError" = some (.ref CD)) (exm : PySem.W.exmOne X.K (.ref D) (.ref CD) = some true) :
    GivesR X (k + 1) ["work", "error", "e"] "_law_refused" (defScope sRef) g cdg (defBody sRef) "work" q (TRef D w0) := by
  intro f c s H Q tl hr act hc h
  have nd := scRef.nd
  refine ⟨_, pss_cons (ps_set (i := 1) nd rfl (.inl rfl) pe_non)
    (C8.pss_cut (ps_try_keep (i := 2) (c := .ref CD) (ts := fun a cls d => tAsg (tVar 2) (gName 1))
        (tb := fun W Dn σ H => ∃ Ech : XK, (∀ cls d σ' H', Ech cls d H' → σ'.length = 3 → W cls d σ' H') ∧ σ[0]? = some (some (.ref f)) ∧ H c = some (CodeO c q) ∧ tl Ech H (fun _ H' => Dn.nx σ H'))
        rfl rfl rfl nd rfl rfl ⟨rfl, by decide, .inl mD⟩ (fun W pn xe tk _ => ?_) (fun a oe cls d pn _ _ => pss_one (ps_set (i := 1) nd rfl (.inl rfl) (pv 2))))
      (pss_one (ps_ret (pe_ifExp (pt_cmp (pc_isN (pv 1))) pe_str (pe_call GW hr (by rfl) mW kW bW .nil pass0 (pa_cons (pv 1) pa_nil)))))), ?_⟩
  · constructor
    rintro pins s' σ H' Dn I ⟨Ech, hW, h1, h2, h3⟩
    exact (pss_one (ps_expr (act _ pn xe Ech _ _ (takesLen tk) hW))).run pins s' σ H' Dn I ⟨h1, h2, h3⟩
  · refine ⟨fun σ' H' => ∃ a y0, σ' = [y0, some (.ref a), none] ∧ H' a = some (ExI (.ref D) none a) ∧ ∀ H'', Same H' H'' → Q (.str w0) H'', ?_, ?_⟩
    · refine ⟨_, ?_, rfl, hc, h _⟩
      rintro cls d σ' H' ⟨rfl, rfl, hq⟩ hlen
      refine ⟨exm, fun a ha => ?_⟩
      match σ', hlen with
      | [y0, y1, y2], _ => exact ⟨.ref a, rfl, a, y0, rfl, upd_same, fun H'' sm => hq H'' ((same_upd ha).trans sm)⟩
    · rintro σ' H' ⟨a, y0, rfl, ha, hq⟩
      refine ⟨.ref a, rfl, _, rfl, iteF ?_⟩
      exact ⟨.ref a, rfl, a, rfl, ha, hq⟩
end Dt
namespace L2X
open PySem PySem.Spec PyProof.Rows L2
section
variable {X : Cx}
/-- a tuple once is itself -/
theorem tuple_mul1 (l : Addr) (items : Array Value) (n : Nat) (dd : Option Addr) (sl : Array (Option Value)) (u : Tok) :
    Meets (Builtin.«tuple.__mul__» ⟨[.ref l, .int 1 u], []⟩) (fun _ R s => s.heap.get? l = some { cls := .type "tuple", dict := dd, data := .seq items n, slots := sl } ∧ R (.ok (.ret (Value.ref l))) s) :=
  .of_wp fun prog w A R s h => by
    obtain ⟨hp, g, d, tk, os⟩ := s
    obtain ⟨hl, h⟩ := h
    have f1 := AutoSeq1.idx_int
    wp_walk using wpAny_loadPart' hl
    exact ⟨_, rfl, h⟩
/-- list(text) -/
theorem vals_signs : ∀ (l : List Nat) (its : List Value), l.length = its.length → (∀ (j : Nat) (v : Value), its[j]? = some v → ∃ (c : Nat) (u : Tok), l[j]? = some c ∧ v = Value.str ⟨#[c]⟩ u) → Vals (l.map fun c => V.str ⟨#[c]⟩) its
  | [], [], _, _ => .nil
  | [], _ :: _, h, _ => by cases h
  | _ :: _, [], h, _ => by cases h
  | c :: r, v :: t, h, g => by
    obtain ⟨c', u, e1, e2⟩ := g 0 v rfl
    have e3 : c = c' := Option.some.inj e1
    subst e3
    refine .cons ⟨u, e2⟩ (vals_signs r t (Nat.succ.inj h) fun j w e => ?_)
    obtain ⟨c2, u2, e4, e5⟩ := g (j + 1) w e
    exact ⟨c2, u2, e4, e5⟩
theorem call_listS (hc : X.calm = true) : CallR X (.type "list") (fun xs H Q => ∃ x : Str, xs = [.str x] ∧ x.length ≤ sizeLine ∧ ∀ l, H l = none → Q (.ref l) (upd H l (.lst (x.cps.toList.map fun c => V.str ⟨#[c]⟩)))) := by
  intro pins s σ H xs us Q I r h
  obtain ⟨x, rfl, hx, q⟩ := h
  obtain ⟨u, rfl, t, rfl⟩ := vals1 r
  refine call_list_str (I.ok.hd hc) x t (fun h' tk acc c' keeps got it => ?_) hx
  have hl : x.cps.toList.length = acc.toList.length := by
    rw [Array.length_toList, Array.length_toList, it.1]
  have vs := vals_signs x.cps.toList acc.toList hl fun j v e => by
    obtain ⟨c, u', e1, e2⟩ := it.2 j v (by rw [← Array.getElem?_toList]; exact e)
    exact ⟨c, u', by rw [Array.getElem?_toList]; exact e1, e2⟩
  refine ⟨.ref s.heap.objs.size, _, I.laid (t' := tk) keeps (Nat.le_refl _) ?_, rfl, q _ (I.hok.fresh (Nat.le_refl _))⟩
  refine ⟨?_, acc.toList, c', vs, ?_⟩
  · rw [List.length_map]
    exact hx
  · rw [got]
/-- t * n, n from 1 on -/
def rRepA (K : PySem.W.Frag) : R2 := fun x y H Q => ∃ l k xs, x = .ref l ∧ y = .int k ∧ SqT K H l xs ∧ xs ≠ [] ∧ 1 ≤ k ∧ k ≤ 1000 ∧ xs.length ≤ 1000 ∧ (k = 1 → Q (.ref l) H) ∧ (2 ≤ k → ∀ p, H p = none → Q (.ref p) (upd H p (.tup (List.replicate k.toNat xs).flatten)))
theorem op_repA : OpR X (binaryOp .Mult) (rRepA X.K) := by
  intro pins s σ H x y v u Q I rx ry h
  obtain ⟨l, k, xs, rfl, rfl, hT, hne, h1, h2, hz, q1, q2⟩ := h
  by_cases e1 : k = 1
  · subst e1
    cases rx
    obtain ⟨t, rfl⟩ := ry
    obtain ⟨its, _, ⟨⟨cls, dd, data, sl⟩, got, hc, n, hd⟩, _⟩ := I.tuple hT
    simp only at hc hd
    subst hc hd
    have once := tuple_mul1 l its.toArray n dd sl t
    have back := int_rmul_tuple 1 t l its.toArray n dd sl
    refine wpAny_binaryOp_repeat_ref (T := "tuple") (U := "int") (by decide) ⟨_, got, rfl⟩ (fun s' => typeIs_int s' 1 t)
      noFill_tuple_mul F.fills_int_mul F.slot_int_rmul repeat_tuple F.slot_int_index.lookup ?_
    refine call_meets F.slot_int_rmul (typeIs_int s 1 t) F.entry_int_rmul (F.args_int_rmul_2 _ _) back ⟨got, rfl, ⟨_, got, rfl⟩, ?_⟩
    refine call_meets F.slot_tuple_mul ⟨_, got, rfl⟩ F.entry_tuple_mul (F.args_tuple_mul_2 _ _) once ⟨got, ?_⟩
    exact ⟨.ref l, H, I, rfl, q1 rfl⟩
  · exact op_repT pins s σ H _ _ v u Q I rx ry ⟨l, k, xs, rfl, rfl, hT, hne, by omega, h2, hz, q2 (by omega)⟩
end
end L2X
namespace Dt
open PySem PySem.Spec PyProof.Rows L2 L2X
open SX (S)
/-! ### rows and pictures by their signs -/
theorem cnt_two : ∀ l : List Nat, cnt 35 l + cnt 46 l ≤ l.length ∧ (cnt 35 l + cnt 46 l = l.length ↔ ∀ c ∈ l, c = 35 ∨ c = 46)
  | [] => ⟨by rw [cnt_nil, cnt_nil]; exact Int.le_refl _, by rw [cnt_nil, cnt_nil]; exact ⟨fun _ _ h => (List.not_mem_nil h).elim, fun _ => rfl⟩⟩
  | n :: r => by
    obtain ⟨h1, h2⟩ := cnt_two r
    rw [cnt_cons, cnt_cons, List.length_cons]
    have e : ∀ c ∈ n :: r, (c = 35 ∨ c = 46) ↔ True ∧ (c = 35 ∨ c = 46) := fun c _ => by simp
    by_cases a : n = 35
    · subst a
      rw [if_pos rfl, if_neg (by decide)]
      refine ⟨by omega, ⟨fun z => ?_, fun z => ?_⟩⟩
      · have z2 := h2.mp (by omega)
        intro c hc
        rcases List.mem_cons.mp hc with q | q
        · exact .inl q
        · exact z2 c q
      · have := h2.mpr fun c hc => z c (List.mem_cons_of_mem _ hc)
        omega
    · by_cases b : n = 46
      · subst b
        rw [if_neg (by decide), if_pos rfl]
        refine ⟨by omega, ⟨fun z => ?_, fun z => ?_⟩⟩
        · have z2 := h2.mp (by omega)
          intro c hc
          rcases List.mem_cons.mp hc with q | q
          · exact .inr q
          · exact z2 c q
        · have := h2.mpr fun c hc => z c (List.mem_cons_of_mem _ hc)
          omega
      · rw [if_neg a, if_neg b]
        refine ⟨by omega, ⟨fun z => by omega, fun z => ?_⟩⟩
        rcases z n List.mem_cons_self with q | q
        · exact absurd q a
        · exact absurd q b
theorem rowOk_S (l : List Nat) : rowOk (.str (S l)) = (decide (1 ≤ l.length) && decide (l.length ≤ 120) && decide (∀ c ∈ l, c = 35 ∨ c = 46)) := by
  have e : decide (Txt.count (S l) "#" + Txt.count (S l) "." = ((S l).length : Int)) = decide (∀ c ∈ l, c = 35 ∨ c = 46) := by
    rw [s_hash, s_dot, count_cnt, count_cnt, SX.S_len]
    exact Bool.eq_iff_iff.mpr ⟨fun h => decide_eq_true ((cnt_two l).2.mp (of_decide_eq_true h)), fun h => decide_eq_true ((cnt_two l).2.mpr (of_decide_eq_true h))⟩
  rw [rowOk_str, e, SX.S_len]
theorem rowOk_rv {wide : Nat} {l : List Nat} (h : RowR wide l) (w0 : 1 ≤ wide) (w1 : wide ≤ 120) : rowOk (rv l) = true := by
  unfold rv
  rw [rowOk_S, h.len, decide_eq_true w0, decide_eq_true w1, decide_eq_true h.sg]
  rfl
theorem rowOk_bad {l : List Nat} {c : Nat} (hc : c ∈ l) (h1 : c ≠ 35) (h2 : c ≠ 46) : rowOk (.str (S l)) = false := by
  rw [rowOk_S, decide_eq_false (p := ∀ c ∈ l, c = 35 ∨ c = 46), Bool.and_false]
  intro z
  rcases z c hc with q | q
  · exact h1 q
  · exact h2 q
theorem rowOk_len {l : List Nat} (h : l.length = 0 ∨ 120 < l.length) : rowOk (.str (S l)) = false := by
  rw [rowOk_S]
  rcases h with h | h
  · rw [decide_eq_false (by omega : ¬ 1 ≤ l.length)]
    rfl
  · rw [decide_eq_false (by omega : ¬ l.length ≤ 120), Bool.and_false, Bool.false_and]
theorem lenV_S (l : List Nat) : lenV (.str (S l)) = (l.length : Int) := by
  show ((S l).length : Int) = _
  rw [SX.S_len]
theorem picOk_pic {high wide : Nat} {rs : List (List Nat)} (h : PicR high wide rs) : picOk (rs.map rv) = true := by
  unfold picOk
  have a1 : decide (1 ≤ (rs.map rv).length) = true := decide_eq_true (by rw [List.length_map, h.len]; exact h.h0)
  have a2 : decide ((rs.map rv).length ≤ 60) = true := decide_eq_true (by rw [List.length_map, h.len]; exact h.h1)
  have a3 : (rs.map rv).all rowOk = true := List.all_eq_true.mpr fun y hy => by
    obtain ⟨l, hl, rfl⟩ := List.mem_map.mp hy
    exact rowOk_rv (h.row l hl) h.w0 h.w1
  have len : ∀ y ∈ rs.map rv, lenV y = (wide : Int) := fun y hy => by
    obtain ⟨l, hl, rfl⟩ := List.mem_map.mp hy
    unfold rv
    rw [lenV_S, (h.row l hl).len]
  have a4 : ((rs.map rv).all fun y => decide (lenV y = lenV ((rs.map rv).headD .non))) = true := List.all_eq_true.mpr fun y hy => by
    refine decide_eq_true ?_
    rw [len y hy]
    cases e : rs.map rv with
    | nil =>
      rw [e] at hy
      cases hy
    | cons x r =>
      have z := len x (by rw [e]; exact List.mem_cons_self)
      exact z.symm
  rw [a1, a2, a3, a4]
  rfl
/-- one row put in the place of another: no picture -/
theorem picOk_odd {high wide r : Nat} {rs : List (List Nat)} {one : V} (h : PicR high wide rs) (hr : r < high) (b : rowOk one = false ∨ (2 ≤ high ∧ lenV one ≠ (wide : Int))) :
    picOk ((rs.map rv).take r ++ [one] ++ (rs.map rv).drop (r + 1)) = false := by
  cases e : picOk ((rs.map rv).take r ++ [one] ++ (rs.map rv).drop (r + 1)) with
  | false => rfl
  | true =>
    exfalso
    unfold picOk at e
    rw [Bool.and_eq_true, Bool.and_eq_true, Bool.and_eq_true] at e
    obtain ⟨⟨⟨_, _⟩, e3⟩, e4⟩ := e
    have m1 : one ∈ (rs.map rv).take r ++ [one] ++ (rs.map rv).drop (r + 1) := by simp
    rcases b with b | ⟨b1, b2⟩
    · have z := List.all_eq_true.mp e3 one m1
      rw [b] at z
      cases z
    · have len : ∀ y ∈ rs.map rv, lenV y = (wide : Int) := fun y hy => by
        obtain ⟨l, hl, rfl⟩ := List.mem_map.mp hy
        unfold rv
        rw [lenV_S, (h.row l hl).len]
      obtain ⟨y, m2, hy⟩ : ∃ y, y ∈ (rs.map rv).take r ++ [one] ++ (rs.map rv).drop (r + 1) ∧ y ∈ rs.map rv := by
        have hl : (rs.map rv).length = high := by rw [List.length_map, h.len]
        by_cases hr0 : r = 0
        · subst hr0
          have : 1 < (rs.map rv).length := by omega
          refine ⟨(rs.map rv)[1], ?_, List.getElem_mem _⟩
          refine List.mem_append_right _ ?_
          exact List.mem_of_getElem? (i := 0) (by rw [List.getElem?_drop, List.getElem?_eq_getElem this])
        · have : 0 < (rs.map rv).length := by omega
          refine ⟨(rs.map rv)[0], ?_, List.getElem_mem _⟩
          refine List.mem_append_left _ (List.mem_append_left _ ?_)
          exact List.mem_of_getElem? (i := 0) (by rw [List.getElem?_take, if_pos (by omega), List.getElem?_eq_getElem this])
      have z1 := of_decide_eq_true (List.all_eq_true.mp e4 one m1)
      have z2 := of_decide_eq_true (List.all_eq_true.mp e4 y m2)
      exact b2 (z1.trans (z2.symm.trans (len y hy)))
end Dt
namespace Dt
open PySem PySem.Spec PyProof.Rows L2 L2X
open SX (S)
/-! ### tuples cut and put together, whatever objects they are -/
theorem cutV_to (xs : List V) (r : Nat) : cutV xs none (some (r : Int)) = xs.take r := by
  unfold cutV
  rw [HT.sIx_none, HT.sIx_nat, List.drop_zero, Nat.sub_zero]
  by_cases h : r ≤ xs.length
  · rw [Nat.min_eq_left h]
  · rw [Nat.min_eq_right (by omega), List.take_of_length_le (Nat.le_refl _), List.take_of_length_le (by omega)]
theorem cutV_from (xs : List V) (r : Nat) : cutV xs (some (r : Int)) none = xs.drop r := by
  unfold cutV
  rw [HT.sIx_none, HT.sIx_nat]
  by_cases h : r ≤ xs.length
  · rw [Nat.min_eq_left h, List.take_of_length_le (by rw [List.length_drop]; omega)]
  · rw [Nat.min_eq_right (by omega), List.drop_of_length_le (Nat.le_refl _), List.drop_of_length_le (by omega), List.take_nil]
theorem cutV_whole {xs : List V} {lo hi : Option Int} (h : HT.sIx xs.length 0 lo = 0 ∧ HT.sIx xs.length xs.length hi = xs.length) : cutV xs lo hi = xs := by
  unfold cutV
  rw [h.1, h.2, List.drop_zero, Nat.sub_zero, List.take_length]
theorem sl_any {K : PySem.W.Frag} {H : Hp} {a : Addr} {xs : List V} {lo hi : Option Int} {Q : VK} (h : H a = some (.tup xs)) (q : ∀ z H2, Same H H2 → H2 z = some (.tup (cutV xs lo hi)) → Q (.ref z) H2) : rSlA K (.ref a) lo hi H Q :=
  ⟨a, xs, rfl, SqT.of h, fun w => q a H (Same.refl H) (by rw [cutV_whole w]; exact h), fun _ p hp => q p _ (same_upd hp) upd_same⟩
theorem cat_any {K : PySem.W.Frag} {H : Hp} {a b : Addr} {xs ys : List V} {Q : VK} (h : H a = some (.tup xs)) (g : H b = some (.tup ys)) (hz : xs.length + ys.length ≤ sizeLine) (q : ∀ z H2, Same H H2 → H2 z = some (.tup (xs ++ ys)) → Q (.ref z) H2) :
    rCatA K (.ref a) (.ref b) H Q :=
  ⟨a, b, xs, ys, rfl, rfl, SqT.of h, SqT.of g, hz, fun e => q b H (Same.refl H) (by rw [e]; exact g), fun _ e => q a H (Same.refl H) (by rw [e, List.append_nil]; exact h), fun _ _ p hp => q p _ (same_upd hp) upd_same⟩
theorem rep_any {K : PySem.W.Frag} {H : Hp} {a : Addr} {x : V} {k : Nat} {Q : VK} (h : H a = some (.tup [x])) (h1 : 1 ≤ k) (h2 : k ≤ 1000) (q : ∀ z H2, Same H H2 → H2 z = some (.tup (List.replicate k x)) → Q (.ref z) H2) :
    rRepA K (.ref a) (.int k) H Q := by
  have flat : ∀ n : Nat, (List.replicate n [x]).flatten = List.replicate n x := by
    intro n
    induction n with
    | zero => rfl
    | succ n ih => rw [List.replicate_succ, List.flatten_cons, ih, List.replicate_succ]; rfl
  refine ⟨a, k, [x], rfl, rfl, SqT.of h, (by simp), by omega, by omega, by show 1 ≤ 1000; decide, fun e => q a H (Same.refl H) ?_, fun _ p hp => q p _ (same_upd hp) ?_⟩
  · have : k = 1 := by omega
    subst this
    exact h
  · rw [upd_same, Int.toNat_natCast, flat]
theorem rep_anyI {K : PySem.W.Frag} {H : Hp} {a : Addr} {x : V} {i : Int} {k : Nat} {Q : VK} (e : i = (k : Int)) (h : H a = some (.tup [x])) (h1 : 1 ≤ k) (h2 : k ≤ 1000) (q : ∀ z H2, Same H H2 → H2 z = some (.tup (List.replicate k x)) → Q (.ref z) H2) :
    rRepA K (.ref a) (.int i) H Q := by
  rw [e]
  exact rep_any h h1 h2 q
theorem cutS_butlast {l : List Nat} (h : 1 ≤ l.length) : cutS (S l) none (some (-1)) = S (l.take (l.length - 1)) := by
  unfold cutS
  have e : HT.sIx (S l).length (S l).length (some (-1)) = l.length - 1 := by
    rw [SX.S_len]
    show (if (-1 : Int) < 0 then ((-1 : Int) + (l.length : Int)).toNat else min (-1 : Int).toNat l.length) = _
    rw [if_pos (by decide)]
    omega
  rw [e]
  show (⟨((l.drop 0).take (l.length - 1 - 0)).toArray⟩ : Str) = _
  rw [List.drop_zero, Nat.sub_zero]
theorem cutS_tail (l : List Nat) : cutS (S l) (some 1) none = S (l.drop 1) := by
  unfold cutS
  have e : HT.sIx (S l).length 0 (some 1) = min 1 l.length := by
    rw [SX.S_len]
    exact HT.sIx_nat l.length 0 1
  rw [e, HT.sIx_none, SX.S_len]
  cases l with
  | nil => rfl
  | cons c r =>
    have m : min 1 (c :: r).length = 1 := by
      rw [List.length_cons]
      omega
    rw [m]
    show (⟨(List.take ((c :: r).length - 1) r).toArray⟩ : Str) = _
    rw [List.length_cons, Nat.add_sub_cancel, List.take_length]
    rfl
/-! ### what stays through draws -/
theorem Dn.tup {d g c a : Addr} {H H' : Hp} {xs : List V} (s : Dn d g H H') (D : Dr H d g c) (h : H a = some (.tup xs)) : H' a = some (.tup xs) := by
  obtain ⟨⟨r, t, h1⟩, ⟨gs, h2, _⟩, _, _⟩ := D
  exact s _ _ h (ne_of h h1 (by intro z; cases z)) (ne_of h h2 (by intro z; cases z))
theorem tyB_dn {K : PySem.W.Frag} {d g c : Addr} {H H' : Hp} {x : V} {T : String} (s : Dn d g H H') (D : Dr H d g c) (D' : Dr H' d g c) (t : TyB K H x T) : TyB K H' x T := by
  obtain ⟨⟨r, tt, h1⟩, ⟨gs, h2, _⟩, _, _⟩ := D
  obtain ⟨⟨r', tt', h1'⟩, ⟨gs', h2', _⟩, _, _⟩ := D'
  cases t with
  | non => exact .non
  | bl b => exact .bl b
  | int i => exact .int i
  | str x => exact .str x
  | byt b => exact .byt b
  | @lst a xs h =>
    rcases h with (h | ⟨o, h⟩) | h
    · by_cases e : a = g
      · rw [e]
        exact .lst (SqL.of h2')
      · exact .lst (SqL.of (s _ _ h (ne_of h h1 (by intro z; cases z)) e))
    · exact .lst (.inl (.inr ⟨o, s _ _ h (ne_of h h1 (by intro z; cases z)) (ne_of h h2 (by intro z; cases z))⟩))
    · exact .lst (.inr h)
  | @tup a xs h =>
    rcases h with (h | ⟨o, h⟩) | h
    · exact .tup (SqT.of (s _ _ h (ne_of h h1 (by intro z; cases z)) (ne_of h h2 (by intro z; cases z))))
    · exact .tup (.inl (.inr ⟨o, s _ _ h (ne_of h h1 (by intro z; cases z)) (ne_of h h2 (by intro z; cases z))⟩))
    · exact .tup (.inr h)
  | @dK a kvs h =>
    by_cases e : a = d
    · rw [e]
      exact .dK h1'
    · exact .dK (s _ _ h e (ne_of h h2 (by intro z; cases z)))
theorem sqT_dn {K : PySem.W.Frag} {d g c a : Addr} {H H' : Hp} {xs : List V} (s : Dn d g H H') (D : Dr H d g c) (h : SqT K H a xs) : SqT K H' a xs := by
  obtain ⟨⟨r, tt, h1⟩, ⟨gs, h2, _⟩, _, _⟩ := D
  rcases h with (h | ⟨o, h⟩) | h
  · exact SqT.of (s _ _ h (ne_of h h1 (by intro z; cases z)) (ne_of h h2 (by intro z; cases z)))
  · exact .inl (.inr ⟨o, s _ _ h (ne_of h h1 (by intro z; cases z)) (ne_of h h2 (by intro z; cases z))⟩)
  · exact .inr h
theorem Kn.dn {K : PySem.W.Frag} {d g c : Addr} {H H' : Hp} {x : V} (h : Kn K H x) (s : Dn d g H H') (D : Dr H d g c) (D' : Dr H' d g c) : Kn K H' x := by
  obtain ⟨⟨T, t, ok⟩, z⟩ := h
  exact ⟨⟨T, tyB_dn s D D' t, ok⟩, z⟩
theorem Asked.dn {K : PySem.W.Frag} {d g c : Addr} {H H' : Hp} {x : V} {b : Bool} (h : Asked K H x b) (s : Dn d g H H') (D : Dr H d g c) (D' : Dr H' d g c) : Asked K H' x b := by
  rcases h with ⟨T, t, ok, ne, e⟩ | ⟨a, xs, e, h1, h2, e2⟩
  · exact .inl ⟨T, tyB_dn s D D' t, ok, ne, e⟩
  · exact .inr ⟨a, xs, e, sqT_dn s D h1, fun l y hy => (h2 l y hy).dn s D D', e2⟩
theorem tyB_same {K : PySem.W.Frag} {H H' : Hp} {x : V} {T : String} (t : TyB K H x T) (s : Same H H') : TyB K H' x T := by
  cases t with
  | non => exact .non
  | bl b => exact .bl b
  | int i => exact .int i
  | str x => exact .str x
  | byt b => exact .byt b
  | lst h => exact .lst (s.seq h)
  | tup h => exact .tup (sameT s h)
  | dK h => exact .dK (s _ _ h)
theorem asked_same {K : PySem.W.Frag} {H H' : Hp} {x : V} {b : Bool} (h : Asked K H x b) (s : Same H H') : Asked K H' x b := by
  rcases h with ⟨T, t, ok, ne, e⟩ | ⟨a, xs, e, h1, h2, e2⟩
  · exact .inl ⟨T, tyB_same t s, ok, ne, e⟩
  · exact .inr ⟨a, xs, e, sameT s h1, fun l y hy => (h2 l y hy).same s, e2⟩
def Bad0 (K : PySem.W.Frag) (H : Hp) (o : V) : Prop := Kn K H o ∧ rowOk o = false
def Bad1 (K : PySem.W.Frag) (H : Hp) (wide : Nat) (o : V) : Prop := Kn K H o ∧ (rowOk o = false ∨ lenV o ≠ (wide : Int))
theorem kn_str {K : PySem.W.Frag} {H : Hp} {z : Str} (h : z.length ≤ sizeLine) : Kn K H (.str z) := ⟨⟨"str", .str z, rfl⟩, fun y e => by cases e; exact h⟩
/-! ### _law_odd_picture -/
abbrev sOdd : Stmt := topS 51
theorem scOdd : FnScope ["draw", "picture", "r", "wide", "row", "rows", "some", "one"] ["draw", "picture"] (defScope sOdd) := ⟨rfl, rfl, rfl, by decide +kernel, rfl, by decide +kernel, by decide +kernel⟩
def spOdd (K : PySem.W.Frag) : Sp := fun vs H Q _ => ∃ (d g c a : Addr) (high wide : Nat) (rs : List (List Nat)), vs = [.ref d, .ref a] ∧ Dr H d g c ∧ PicR high wide rs ∧ H a = some (.tup (rs.map rv)) ∧
  ∀ x H', Asked K H' x false → Dr H' d g c → Dn d g H H' → Q x H'
section
variable {P : Program} {w : World} {K : PySem.W.Frag} {mg : Str → Option Value} {base : Heap}
theorem ok_odd {f fN : Addr} {fd fdN : FuncData} {k : Nat} (F : Fun K "_law_odd_picture" "_law_odd_picture" sOdd f fd) (T : Tx mg) (GN : FnOk P w K mg base CX0 (k + 1) fN fdN ["draw", "below"] spNext) (mN : mg "_law_next" = some (.ref fN)) (kN : PySem.W.keepIn K (.ref fN) = true) (bN : Binds K fdN ["draw", "below"] []) :
    FnOk P w K mg base CX0 (k + 2) f fd ["draw", "picture"] (spOdd K) := by
  refine F.ok scOdd (fun vs H Q E h => ?_) (fun cdv A outer s H vs Q E hr h => ?_)
  · obtain ⟨d, g, c, a, high, wide, rs, rfl, _⟩ := h
    rfl
  · obtain ⟨d, g, c, a, high, wide, rs, rfl, D, pr, ha, q⟩ := h
    have hu := hu_of hr
    have nd := scOdd.nd
    refine ⟨_, C8.pss_cut (ps_asg (pe_tup (pa_cons (pe_call GN hr (by rfl) mN kN bN .nil pass0 (pa_cons (pv 0) (pa_cons (pe_callB call_len_seq (by rfl) T.len PySem.boot_len (pa_cons (pv 1) pa_nil)) pa_nil))) (pa_cons (pe_callB call_len_str (by rfl) T.len PySem.boot_len (pa_cons (pe_ix (r := rIxT K) ix_tup (pv 1) pe_int (fun _ _ => rfl)) pa_nil)) pa_nil))) (pg_tup rfl (pgs_cons (pg_name (i := 2) nd rfl (.inr rfl)) (pgs_cons (pg_name (i := 3) nd rfl (.inl rfl)) pgs_nil)))) (
      C8.pss_cut (ps_set (i := 4) nd rfl (.inl rfl) (pe_ix (r := rIxT K) ix_tup (pv 1) (pv 2) (fun _ _ => rfl))) (
      C8.pss_cut (ps_set (i := 5) nd rfl (.inl rfl) (pe_lst (pa_cons (pe_slice sl_str (pv 4) po_none (po_some (pe_un un_neg pe_int))) (pa_cons (pe_op op_add_str (pv 4) pe_str) (pa_cons (pe_op op_add_str (pe_slice sl_str (pv 4) po_none (po_some (pe_un un_neg pe_int))) pe_str) (pa_cons (pe_op op_add_str (pe_slice sl_str (pv 4) po_none (po_some (pe_un un_neg pe_int))) pe_str) (pa_cons pe_str (pa_cons pe_non (pa_cons pe_int (pa_cons (pe_callTy (call_listS rfl) (by rfl) T.list (by decide +kernel) (pa_cons (pv 4) pa_nil)) (pa_cons (pe_op (r := rRepA K) op_repA (pe_tup (pa_cons pe_str pa_nil)) (pv 3)) (pa_cons (pe_op op_add_str (pe_slice sl_str (pv 4) (po_some pe_int) po_none) pe_str) pa_nil)))))))))))) (
      C8.pss_cut (ps_setLc (i := 6) (own := [("one", 7)]) (g := gName 7) (by rfl) nd rfl rfl (sw_true rfl rfl rfl (by decide +kernel)) (pi_list (pv 5)) (blkOk_by (N := ["draw", "picture", "r", "wide", "row", "rows", "some", "one"]) (sc := defScope sOdd) (by decide +kernel)) (fun _ _ _ _ _ => pg_name (i := 7) nd rfl (Or.inl rfl)) (fun _ _ _ _ _ => pts_nil) (fun _ _ _ _ _ => pe_op (r := rCatA K) op_catA (pe_op (r := rCatA K) op_catA (pe_slice (r := rSlA K) sl_tupA (pv 1) po_none (po_some (pv 2))) (pe_tup (pa_cons (pv 7) pa_nil))) (pe_slice (r := rSlA K) sl_tupA (pv 1) (po_some (pe_op op_add (pv 2) pe_int)) po_none))) (
      C8.pss_cut (ps_if (pt_cmpR op_eq (pe_callB call_len_seq (by rfl) T.len PySem.boot_len (pa_cons (pv 1) pa_nil)) pe_int (nomark _)) (pss_one (ps_set (i := 6) nd rfl (.inl rfl) (pe_slice sl_list (pv 6) (po_some pe_int) po_none))) pss_nil) (
      C8.pss_cut (ps_set (i := 6) nd rfl (.inl rfl) (pe_op op_cat (pv 6) (pe_lst (pa_cons (pe_tup pa_nil) (pa_cons pe_non (pa_cons pe_int (pa_cons pe_bl (pa_cons pe_str (pa_cons (pe_callTy call_list_of (by rfl) T.list (by decide +kernel) (pa_cons (pv 1) pa_nil)) (pa_cons pe_dnewK (pa_cons (pe_tup (pa_cons (pe_op op_mul_str pe_str pe_int) pa_nil)) (pa_cons (pe_op (r := rRepA K) op_repA (pe_tup (pa_cons pe_str pa_nil)) pe_int) (pa_cons (pe_tup (pa_cons pe_str pa_nil)) (pa_cons (pe_ix (r := rIxT K) ix_tup (pv 1) pe_int (fun _ _ => rfl)) (pa_cons (pe_lst (pa_cons pe_str pa_nil)) pa_nil))))))))))))))) (
      pss_one (ps_ret (pe_ix (r := rIxL K) ix_list (pv 6) (pe_call GN hr (by rfl) mN kN bN .nil pass0 (pa_cons (pv 0) (pa_cons (pe_callB call_len_seq (by rfl) T.len PySem.boot_len (pa_cons (pv 6) pa_nil)) pa_nil))) (fun _ _ => rfl))))))))), ?_⟩
    have hlen : (rs.map rv).length = high := by rw [List.length_map, pr.len]
    obtain ⟨l00, hl00⟩ : ∃ l, rs[0]? = some l := ⟨rs[0]'(by rw [pr.len]; exact pr.h0), List.getElem?_eq_getElem _⟩
    have at0 : atI (rs.map rv) 0 = some (rv l00) := atI_nat (j := 0) (by rw [List.getElem?_map, hl00]; rfl)
    have row0 := pr.row l00 (List.mem_of_getElem? hl00)
    have W1 := pr.w1
    have HH1 := pr.h1
    have small : ∀ {n : Nat}, n ≤ 300 → n ≤ sizeLine := fun h => Nat.le_of_lt (small1000 (by omega))
    have z0 : (S l00).length ≤ sizeLine := by
      rw [SX.S_len, row0.len]
      exact small (by omega)
    -- r, wide
    refine ⟨fun σ' H' => ∃ r : Nat, σ' = [some (.ref d), some (.ref a), some (.int r), some (.int wide), none, none, none, none] ∧ r < high ∧ Dr H' d g c ∧ Dn d g H H', ?_, ?_⟩
    · refine ⟨.ref d, rfl, .ref a, rfl, a, _, rfl, .inr (SqT.of ha), d, g, c, ((rs.map rv).length : Int), rfl, D, by rw [hlen]; have := pr.h0; omega, by rw [hlen]; omega, fun n H1 n0 n1 D1 dn1 => ?_⟩
      obtain ⟨j, rfl⟩ := Int.eq_ofNat_of_zero_le n0
      have ha1 := dn1.tup D ha
      refine ⟨.ref a, rfl, a, _, 0, rv l00, rfl, rfl, SqT.of ha1, at0, S l00, rfl, z0, by show 2 ≤ sizeLine; decide, fun t ht => ?_⟩
      have st := same_upd (o := .tup [V.int (j : Int), V.int ((S l00).length : Int)]) ht
      refine ⟨t, _, rfl, SqT.of upd_same, rfl, .int j, _, rfl, .int _, [], rfl, rfl, j, ?_, ?_, D1.same st, dn1.trans (Dn.same st)⟩
      · have e : V.int ((S l00).length : Int) = V.int (wide : Int) := by rw [SX.S_len, row0.len]
        rw [e]
        rfl
      · rw [hlen] at n1
        omega
    · rintro _ G1 ⟨r, rfl, hr1, D1, dn1⟩
      obtain ⟨l0, hl0⟩ : ∃ l, rs[r]? = some l := ⟨rs[r]'(by rw [pr.len]; exact hr1), List.getElem?_eq_getElem _⟩
      have rowr := pr.row l0 (List.mem_of_getElem? hl0)
      have atr : atI (rs.map rv) (r : Int) = some (rv l0) := atI_nat (by rw [List.getElem?_map, hl0]; rfl)
      have ha1 := dn1.tup D ha
      -- row
      refine ⟨fun σ' H' => σ' = [some (.ref d), some (.ref a), some (.int r), some (.int wide), some (rv l0), none, none, none] ∧ H' = G1, ?_, ?_⟩
      · exact ⟨.ref a, rfl, .int r, rfl, a, _, r, rv l0, rfl, rfl, SqT.of ha1, atr, rfl, rfl⟩
      · rintro _ G1 ⟨rfl, rfl⟩
        have zl : (S l0).length ≤ sizeLine := by
          rw [SX.S_len, rowr.len]
          exact small (by omega)
        have w0 := pr.w0
        -- rows
        refine ⟨fun σ' H' => ∃ (lr : Addr) (o0 o1 : V) (rest : List V), σ' = [some (.ref d), some (.ref a), some (.int r), some (.int wide), some (rv l0), some (.ref lr), none, none] ∧ Same G1 H' ∧ H' lr = some (.lst (o0 :: o1 :: rest)) ∧ Bad1 K H' wide o0 ∧ Bad1 K H' wide o1 ∧ rest.length = 8 ∧ ∀ o ∈ rest, Bad0 K H' o, ?_, ?_⟩
        · have cut1 : cutS (S l0) none (some (-1)) = S (l0.take (wide - 1)) := by
            rw [cutS_butlast (by rw [rowr.len]; exact w0), rowr.len]
          have cut2 : cutS (S l0) (some 1) none = S (l0.drop 1) := cutS_tail l0
          have zc1 : (cutS (S l0) none (some (-1))).length ≤ 120 := by
            rw [cut1, SX.S_len, List.length_take, rowr.len]
            omega
          have zc2 : (cutS (S l0) (some 1) none).length ≤ 120 := by
            rw [cut2, SX.S_len, List.length_drop, rowr.len]
            omega
          have zl0 : (S l0).length ≤ 120 := by
            rw [SX.S_len, rowr.len]
            omega
          have one1 : ∀ x : Str, x.length = 1 → ∀ y : Str, y.length ≤ 120 → y.length + x.length ≤ sizeLine := fun x hx y hy => small (by omega)
          refine ⟨rv l0, rfl, 1, rfl, -1, rfl, S l0, rfl, zl, rv l0, rfl, S l0, ".", rfl, rfl, one1 _ (by decide +kernel) _ zl0, rv l0, rfl, 1, rfl, -1, rfl, S l0, rfl, zl, _, "x", rfl, rfl, one1 _ (by decide +kernel) _ zc1,
            rv l0, rfl, 1, rfl, -1, rfl, S l0, rfl, zl, _, "\n", rfl, rfl, one1 _ (by decide +kernel) _ zc1, rv l0, rfl, S l0, rfl, zl, fun l8 hl8 => ⟨by show 1 ≤ sizeLine; decide, fun t9 ht9 => ⟨.int wide, rfl, rep_any upd_same w0 (by omega) fun z9 H9 s9 h9 => ?_⟩⟩⟩
          refine ⟨rv l0, rfl, 1, rfl, S l0, rfl, zl, _, " ", rfl, rfl, one1 _ (by decide +kernel) _ zc2, by show 10 ≤ sizeLine; decide, fun lr hlr => ?_⟩
          have s8 := same_upd (o := .lst ((S l0).cps.toList.map fun c => V.str ⟨#[c]⟩)) hl8
          have st9 := same_upd (o := .tup [V.str "#"]) ht9
          have slr := same_upd (o := .lst [V.str (cutS (S l0) none (some (-1))), V.str (S l0 ++ "."), V.str (cutS (S l0) none (some (-1)) ++ "x"), V.str (cutS (S l0) none (some (-1)) ++ "\n"), V.str "", V.non, V.int 5, V.ref l8, V.ref z9, V.str (cutS (S l0) (some 1) none ++ " ")]) hlr
          have sA : Same G1 _ := ((s8.trans st9).trans s9).trans slr
          refine ⟨lr, _, _, _, rfl, sA, upd_same, ?_, ?_, rfl, ?_⟩
          · refine ⟨kn_str (small (by omega)), ?_⟩
            rw [cut1]
            by_cases e : wide = 1
            · refine .inl (rowOk_len (.inl ?_))
              rw [List.length_take]
              omega
            · refine .inr ?_
              rw [lenV_S, List.length_take, rowr.len]
              omega
          · have e : (S l0 ++ "." : Str) = S (l0 ++ [46]) := by rw [s_dot, SX.S_cat]
            refine ⟨kn_str ?_, .inr ?_⟩
            · rw [e, SX.S_len, List.length_append, rowr.len]
              exact small (by show wide + 1 ≤ 300; omega)
            · rw [e, lenV_S, List.length_append, rowr.len]
              show ((wide + 1 : Nat) : Int) ≠ wide
              omega
          · have bad : ∀ (z : Str) (cs : List Nat) (m : Nat), z = S cs → cs.length ≤ 300 → m ∈ cs → m ≠ 35 → m ≠ 46 → Bad0 K (upd H9 lr (.lst [V.str (cutS (S l0) none (some (-1))), V.str (S l0 ++ "."), V.str (cutS (S l0) none (some (-1)) ++ "x"), V.str (cutS (S l0) none (some (-1)) ++ "\n"), V.str "", V.non, V.int 5, V.ref l8, V.ref z9, V.str (cutS (S l0) (some 1) none ++ " ")])) (.str z) := by
              rintro z cs m rfl hz hm h1 h2
              exact ⟨kn_str (by rw [SX.S_len]; exact small hz), rowOk_bad hm h1 h2⟩
            have sx : ("x" : Str) = S [120] := by decide +kernel
            have sn : ("\n" : Str) = S [10] := by decide +kernel
            have sb : (" " : Str) = S [32] := by decide +kernel
            have lt1 : (l0.take (wide - 1)).length ≤ 120 := by
              rw [List.length_take, rowr.len]
              omega
            have lt2 : (l0.drop 1).length ≤ 120 := by
              rw [List.length_drop, rowr.len]
              omega
            intro o ho
            simp only [List.mem_cons, List.not_mem_nil, or_false] at ho
            rcases ho with rfl | rfl | rfl | rfl | rfl | rfl | rfl | rfl
            · exact bad _ (l0.take (wide - 1) ++ [120]) 120 (by rw [cut1, sx, SX.S_cat]) (by rw [List.length_append]; show _ + 1 ≤ 300; omega) (by simp) (by decide) (by decide)
            · exact bad _ (l0.take (wide - 1) ++ [10]) 10 (by rw [cut1, sn, SX.S_cat]) (by rw [List.length_append]; show _ + 1 ≤ 300; omega) (by simp) (by decide) (by decide)
            · refine ⟨kn_str (small (by decide +kernel)), ?_⟩
              rw [s_empty]
              exact rowOk_len (.inl rfl)
            · exact ⟨⟨⟨"NoneType", .non, rfl⟩, fun z e => by cases e⟩, rfl⟩
            · exact ⟨⟨⟨"int", .int 5, rfl⟩, fun z e => by cases e⟩, rfl⟩
            · exact ⟨⟨⟨"list", .lst (SqL.of (slr _ _ (s9 _ _ (st9 _ _ (upd_same (H := G1) (a := l8)))))), rfl⟩, fun z e => by cases e⟩, rfl⟩
            · exact ⟨⟨⟨"tuple", .tup (SqT.of (slr _ _ h9)), rfl⟩, fun z e => by cases e⟩, rfl⟩
            · exact bad _ (l0.drop 1 ++ [32]) 32 (by rw [cut2, sb, SX.S_cat]) (by rw [List.length_append]; show _ + 1 ≤ 300; omega) (by simp) (by decide) (by decide)
        · rintro _ G3 ⟨lr, o0, o1, rest, rfl, sm3, hlr, b0, b1, hrest, brest⟩
          have D3 := D1.same sm3
          have dn3 := dn1.trans (Dn.same sm3)
          have ha3 := sm3 _ _ ha1
          -- some
          refine ⟨fun σ' H' => ∃ (ls : Addr) (ts : List V), σ' = [some (.ref d), some (.ref a), some (.int r), some (.int wide), some (rv l0), some (.ref lr), some (.ref ls), none] ∧ Same G3 H' ∧ G3 ls = none ∧ H' ls = some (.lst ts) ∧ ts.length = 10 ∧ ∀ (j : Nat) t, ts[j]? = some t → (2 ≤ high ∨ 2 ≤ j) → Asked K H' t false, ?_, ?_⟩
          · refine ⟨.ref lr, rfl, lr, rfl, ⟨_, SqL.of hlr⟩, fun Dd hDd => lc_list (K := K) (a := lr) (xs := o0 :: o1 :: rest) (fun i H2 => Same G3 H2 ∧ ∃ ts : List V, H2 Dd = some (.lst ts) ∧ ts.length = i ∧ ∀ (j : Nat) t, ts[j]? = some t → (2 ≤ high ∨ 2 ≤ j) → Asked K H2 t false)
              ⟨same_upd hDd, [], upd_same, rfl, fun j t e => by simp at e⟩ (fun i H2 _ z => SqL.of (z.1 _ _ hlr)) ?_ ?_⟩
            · rintro i x H2 hi ⟨sm, ts, hts, lts, ats⟩
              have hil : i < 10 := by
                rcases Nat.lt_or_ge i (o0 :: o1 :: rest).length with z | z
                · simp only [List.length_cons, hrest] at z
                  omega
                · rw [List.getElem?_eq_none z] at hi
                  cases hi
              have ha2 := sm _ _ ha3
              have szt : ((rs.map rv).take r).length = r := by
                rw [List.length_take, hlen]
                omega
              have szd : ((rs.map rv).drop (r + 1)).length ≤ 60 := by
                rw [List.length_drop, hlen]
                omega
              refine ⟨rfl, .ref a, rfl, .int r, rfl, r, rfl, sl_any ha2 fun z1 K1 s1 h1 => ⟨x, rfl, by show 1 ≤ sizeLine; decide, fun t ht => ?_⟩⟩
              rw [cutV_to] at h1
              have st := same_upd (o := .tup [x]) ht
              refine cat_any (st _ _ h1) upd_same ?_ fun z2 K2 s2 h2 => ⟨.ref a, rfl, .int r, rfl, r, 1, rfl, rfl, (r : Int) + 1, rfl, ?_⟩
              · rw [szt]
                exact small (by show r + 1 ≤ 300; omega)
              dsimp only [tNoPart]
              refine sl_any (s2 _ _ (st _ _ (s1 _ _ ha2))) fun z3 K3 s3 h3 => ?_
              have e1 : (r : Int) + 1 = ((r + 1 : Nat) : Int) := by omega
              rw [e1, cutV_from] at h3
              refine cat_any (s3 _ _ h2) h3 ?_ fun z4 K4 s4 h4 => ?_
              · rw [List.length_append, szt]
                exact small (by show r + 1 + _ ≤ 300; omega)
              have s14 : Same H2 K4 := (((s1.trans st).trans s2).trans s3).trans s4
              have hD4 := s14 _ _ hts
              have nDz : Dd ≠ z4 := ne_of hD4 h4 (by intro z; cases z)
              have sDd : ∀ o : HO, Same G3 (upd K4 Dd o) := fun o b u e => by
                rw [upd_ne (ne_of_none e hDd)]
                exact s14 _ _ (sm _ _ e)
              refine ⟨ts, hD4, by rw [lts]; exact small1000 (by omega), sDd _, ts ++ [.ref z4], upd_same, by rw [List.length_append, lts]; rfl, fun j t' e hj => ?_⟩
              have keepA : ∀ {y : V}, Asked K K4 y false → (∃ u, y ≠ .ref Dd ∨ y = u) → True := fun _ _ => trivial
              -- from K4 to the list's new state: the list at Dd is the only thing that changes
              have up : ∀ {y : V} {T : String}, TyB K K4 y T → TyB K (upd K4 Dd (.lst (ts ++ [.ref z4]))) y T := by
                intro y T t0
                cases t0 with
                | non => exact .non
                | bl b => exact .bl b
                | int i => exact .int i
                | str x => exact .str x
                | byt b => exact .byt b
                | @lst b xs h =>
                  by_cases eb : b = Dd
                  · rw [eb]
                    exact .lst (SqL.of upd_same)
                  · rcases h with (h | ⟨o, h⟩) | h
                    · exact .lst (SqL.of (by rw [upd_ne eb]; exact h))
                    · exact .lst (.inl (.inr ⟨o, by rw [upd_ne eb]; exact h⟩))
                    · exact .lst (.inr h)
                | @tup b xs h =>
                  rcases h with (h | ⟨o, h⟩) | h
                  · exact .tup (SqT.of (by rw [upd_ne (ne_of h hD4 (by intro z; cases z))]; exact h))
                  · exact .tup (.inl (.inr ⟨o, by rw [upd_ne (ne_of h hD4 (by intro z; cases z))]; exact h⟩))
                  · exact .tup (.inr h)
                | @dK b kvs h => exact .dK (by rw [upd_ne (ne_of h hD4 (by intro z; cases z))]; exact h)
              have upT : ∀ {b : Addr} {xs : List V}, SqT K K4 b xs → SqT K (upd K4 Dd (.lst (ts ++ [.ref z4]))) b xs := by
                intro b xs h
                rcases h with (h | ⟨o, h⟩) | h
                · exact SqT.of (by rw [upd_ne (ne_of h hD4 (by intro z; cases z))]; exact h)
                · exact .inl (.inr ⟨o, by rw [upd_ne (ne_of h hD4 (by intro z; cases z))]; exact h⟩)
                · exact .inr h
              have upK : ∀ {y : V}, Kn K K4 y → Kn K (upd K4 Dd (.lst (ts ++ [.ref z4]))) y := by
                rintro y ⟨⟨T, t0, ok⟩, z⟩
                exact ⟨⟨T, up t0, ok⟩, z⟩
              have upA : ∀ {y : V}, Asked K K4 y false → Asked K (upd K4 Dd (.lst (ts ++ [.ref z4]))) y false := by
                intro y h
                rcases h with ⟨T, t0, ok, ne, e⟩ | ⟨b, xs, e, h1, h2, e2⟩
                · exact .inl ⟨T, up t0, ok, ne, e⟩
                · exact .inr ⟨b, xs, e, upT h1, fun l y hy => upK (h2 l y hy), e2⟩
              by_cases hjl : j < ts.length
              · rw [List.getElem?_append_left hjl] at e
                exact upA (asked_same (ats j t' e hj) s14)
              · have ej : j = ts.length := by
                  rcases Nat.lt_or_ge j (ts ++ [V.ref z4]).length with z | z
                  · rw [List.length_append] at z
                    simp only [List.length_cons, List.length_nil] at z
                    omega
                  · rw [List.getElem?_eq_none z] at e
                    cases e
                subst ej
                rw [List.getElem?_append_right (Nat.le_refl _), Nat.sub_self] at e
                have et : t' = .ref z4 := (Option.some.inj e).symm
                subst et
                refine upA (.inr ⟨z4, _, rfl, SqT.of h4, fun _ y hy => ?_, ?_⟩)
                · have knx : Kn K H2 x := by
                    have hm := List.mem_of_getElem? hi
                    rcases List.mem_cons.mp hm with q1 | q1
                    · subst q1; exact b0.1.same sm
                    · rcases List.mem_cons.mp q1 with q2 | q2
                      · subst q2; exact b1.1.same sm
                      · exact (brest x q2).1.same sm
                  have knr : ∀ y ∈ rs.map rv, Kn K K4 y := fun y hy => by
                    obtain ⟨l, hl, rfl⟩ := List.mem_map.mp hy
                    exact kn_str (by rw [SX.S_len, (pr.row l hl).len]; exact small (by omega))
                  rcases List.mem_append.mp hy with q1 | q1
                  · rcases List.mem_append.mp q1 with q2 | q2
                    · exact knr y (List.mem_of_mem_take q2)
                    · rw [List.mem_singleton.mp q2]
                      exact knx.same s14
                  · exact knr y (List.mem_of_mem_drop q1)
                · refine (picOk_odd pr hr1 ?_).symm
                  have hm : i = 0 ∧ x = o0 ∨ i = 1 ∧ x = o1 ∨ x ∈ rest := by
                    match i, hi with
                    | 0, e => exact .inl ⟨rfl, (Option.some.inj e).symm⟩
                    | 1, e => exact .inr (.inl ⟨rfl, (Option.some.inj e).symm⟩)
                    | i + 2, e => exact .inr (.inr (List.mem_of_getElem? (i := i) e))
                  rcases hm with ⟨ei, q1⟩ | ⟨ei, q1⟩ | q1
                  · rw [q1]
                    rcases b0.2 with q2 | q2
                    · exact .inl q2
                    · exact .inr ⟨by omega, q2⟩
                  · rw [q1]
                    rcases b1.2 with q2 | q2
                    · exact .inl q2
                    · exact .inr ⟨by omega, q2⟩
                  · exact .inl (brest x q1).2
            · rintro H2 ⟨sm, ts, hts, lts, ats⟩
              refine ⟨Dd, ts, rfl, sm, hDd, hts, ?_, ats⟩
              rw [lts]
              simp only [List.length_cons, hrest]
          · rintro _ G4 ⟨ls, ts, rfl, sm4, nls, hls, lts, ats⟩
            have D4 := D3.same sm4
            have dn4 := dn3.trans (Dn.same sm4)
            have ha4 := sm4 _ _ ha3
            have nlsg : ls ≠ g := (D3.new nls).2
            have nlsd : ls ≠ d := (D3.new nls).1
            -- if len(picture) == 1
            refine ⟨fun σ' H' => ∃ (l2 : Addr) (us : List V), σ' = [some (.ref d), some (.ref a), some (.int r), some (.int wide), some (rv l0), some (.ref lr), some (.ref l2), none] ∧ Same G4 H' ∧ l2 ≠ g ∧ l2 ≠ d ∧ H' l2 = some (.lst us) ∧ us.length ≤ 10 ∧ ∀ t ∈ us, Asked K H' t false, ?_, ?_⟩
            · refine ⟨.ref a, rfl, a, _, rfl, .inr (SqT.of ha4), rfl, _, rfl, ite2 (fun e => ?_) (fun e => ?_)⟩
              · refine ⟨.ref ls, rfl, 2, rfl, ?_⟩
                dsimp only [tNoPart]
                refine ⟨ls, ts, rfl, SqL.of hls, fun p hp => ?_⟩
                have sp := same_upd (o := .lst (cutV ts (some 2) none)) hp
                have hdrop : cutV ts (some 2) none = ts.drop 2 := cutV_from ts 2
                refine ⟨p, ts.drop 2, rfl, sp, (D4.new hp).2, (D4.new hp).1, by rw [upd_same, hdrop], by rw [List.length_drop]; omega, fun t ht => ?_⟩
                obtain ⟨j, hj⟩ := List.getElem?_of_mem ht
                rw [List.getElem?_drop] at hj
                exact asked_same (ats (2 + j) t hj (.inr (by omega))) sp
              · have h2 : 2 ≤ high := by
                  have h0 := pr.h0
                  rcases Nat.lt_or_ge high 2 with z | z
                  · exfalso
                    apply e
                    have : high = 1 := by omega
                    exact decide_eq_true (by rw [hlen, this]; rfl)
                  · exact z
                refine ⟨ls, ts, rfl, Same.refl _, nlsg, nlsd, hls, by omega, fun t ht => ?_⟩
                obtain ⟨j, hj⟩ := List.getElem?_of_mem ht
                exact ats j t hj (.inl h2)
            · rintro _ G5 ⟨l2, us, rfl, sm5, n2g, n2d, hl2, lus, aus⟩
              have D5 := D4.same sm5
              have dn5 := dn4.trans (Dn.same sm5)
              have ha5 := sm5 _ _ ha4
              -- some = some + [..]
              refine ⟨fun σ' H' => ∃ (l3 : Addr) (vs : List V), σ' = [some (.ref d), some (.ref a), some (.int r), some (.int wide), some (rv l0), some (.ref lr), some (.ref l3), none] ∧ Same G5 H' ∧ G5 l3 = none ∧ H' l3 = some (.lst vs) ∧ 0 < vs.length ∧ vs.length ≤ 30 ∧ ∀ t ∈ vs, Asked K H' t false, ?_, ?_⟩
              · have mk120 : MulOk ("#" : Str) 121 := by
                  refine ⟨by decide, fun _ _ => by decide +kernel, fun _ _ => by decide +kernel⟩
                refine ⟨.ref l2, rfl, by show 0 ≤ sizeLine; decide, fun t0 ht0 => ⟨.ref a, rfl, a, _, rfl, .inr (SqT.of (same_upd ht0 _ _ ha5)), fun l1 hl1 => ?_⟩⟩
                have s0 := same_upd (o := .tup []) ht0
                have s1 := same_upd (o := .lst (rs.map rv)) hl1
                refine fun dd hdd => ⟨"#", 121, rfl, rfl, mk120, by show 1 ≤ sizeLine; decide, fun t2 ht2 => ⟨by show 1 ≤ sizeLine; decide, fun t3 ht3 => ?_⟩⟩
                have sd := same_upd (o := .dK []) hdd
                have s2 := same_upd (o := .tup [V.str (Txt.mul "#" 121)]) ht2
                have s3 := same_upd (o := .tup [V.str "#"]) ht3
                dsimp only [tC]
                refine rep_anyI (k := 61) (x := V.str "#") rfl upd_same (by decide) (by decide) fun z3 K3 sz3 hz3 => ?_
                refine ⟨by show 1 ≤ sizeLine; decide, fun t4 ht4 => ?_⟩
                have s4 := same_upd (o := .tup [V.str ""]) ht4
                have sX : Same G5 _ := ((((s0.trans s1).trans sd).trans s2).trans s3).trans (sz3.trans s4)
                refine ⟨.ref a, rfl, a, _, 0, rv l00, rfl, rfl, SqT.of (sX _ _ ha5), at0, by show 1 ≤ sizeLine; decide, fun l5 hl5 => ⟨by show 12 ≤ sizeLine; decide, fun l6 hl6 => ?_⟩⟩
                have s5 := same_upd (o := .lst [V.str ".#"]) hl5
                have s6 := same_upd (o := .lst [V.ref t0, V.non, V.int 5, V.bl true, V.str "#.", V.ref l1, V.ref dd, V.ref t2, V.ref z3, V.ref t4, rv l00, V.ref l5]) hl6
                have sY := (sX.trans s5).trans s6
                refine ⟨l2, l6, us, _, rfl, rfl, sY _ _ hl2, upd_same, ?_, fun p hp => ?_⟩
                · show us.length + 12 ≤ sizeLine
                  exact small (by omega)
                · have sp := same_upd (o := .lst (us ++ [V.ref t0, V.non, V.int 5, V.bl true, V.str "#.", V.ref l1, V.ref dd, V.ref t2, V.ref z3, V.ref t4, rv l00, V.ref l5])) hp
                  have sZ := sY.trans sp
                  refine ⟨p, _, rfl, sZ, sY.free hp, upd_same, ?_, ?_, fun t ht => ?_⟩
                  · rw [List.length_append]
                    show 0 < us.length + 12
                    omega
                  · rw [List.length_append]
                    show us.length + 12 ≤ 30
                    omega
                  · rcases List.mem_append.mp ht with q1 | q1
                    · exact asked_same (aus t q1) sZ
                    · have f0 := sp _ _ (s6 _ _ (s5 _ _ (s4 _ _ (sz3 _ _ (s3 _ _ (s2 _ _ (sd _ _ (s1 _ _ (upd_same (H := G5) (a := t0) (o := .tup []))))))))))
                      have f1 := sp _ _ (s6 _ _ (s5 _ _ (s4 _ _ (sz3 _ _ (s3 _ _ (s2 _ _ (sd _ _ (upd_at s1))))))))
                      have fd := sp _ _ (s6 _ _ (s5 _ _ (s4 _ _ (sz3 _ _ (s3 _ _ (s2 _ _ (upd_at sd)))))))
                      have f2 := sp _ _ (s6 _ _ (s5 _ _ (s4 _ _ (sz3 _ _ (s3 _ _ (upd_at s2))))))
                      have f3 := sp _ _ (s6 _ _ (s5 _ _ (s4 _ _ hz3)))
                      have f4 := sp _ _ (s6 _ _ (s5 _ _ (upd_at s4)))
                      have f5 := sp _ _ (s6 _ _ (upd_at s5))
                      simp only [List.mem_cons, List.not_mem_nil, or_false] at q1
                      rcases q1 with rfl | rfl | rfl | rfl | rfl | rfl | rfl | rfl | rfl | rfl | rfl | rfl
                      · exact .inr ⟨t0, [], rfl, SqT.of f0, (fun _ y hy => nomatch hy), rfl⟩
                      · exact .inl ⟨_, .non, rfl, by decide, rfl⟩
                      · exact .inl ⟨_, .int 5, rfl, by decide, rfl⟩
                      · exact .inl ⟨_, .bl true, rfl, by decide, rfl⟩
                      · exact .inl ⟨_, .str _, rfl, by decide, rfl⟩
                      · exact .inl ⟨_, .lst (SqL.of f1), rfl, by decide, rfl⟩
                      · exact .inl ⟨_, .dK fd, rfl, by decide, rfl⟩
                      · have em : Txt.mul "#" 121 = S (List.replicate 121 35) := by
                          rw [s_hash]
                          exact mul_sign 35 121 (by decide)
                        refine .inr ⟨t2, _, rfl, SqT.of f2, fun _ y hy => ?_, ?_⟩
                        · rw [List.mem_singleton.mp hy, em]
                          exact kn_str (by rw [SX.S_len, List.length_replicate]; exact small (by decide))
                        · unfold picOk
                          rw [em]
                          have z : [V.str (S (List.replicate 121 35))].all rowOk = false := by
                            show (rowOk (.str (S (List.replicate 121 35))) && true) = false
                            rw [rowOk_len (.inr (by rw [List.length_replicate]; decide))]
                            rfl
                          rw [z, Bool.and_false, Bool.false_and]
                      · refine .inr ⟨z3, _, rfl, SqT.of f3, fun le => ?_, ?_⟩
                        · rw [List.length_replicate] at le
                          exact absurd le (by decide)
                        · unfold picOk
                          rw [List.length_replicate, decide_eq_false (by decide : ¬ 61 ≤ 60), Bool.and_false, Bool.false_and, Bool.false_and]
                      · refine .inr ⟨t4, _, rfl, SqT.of f4, fun _ y hy => ?_, ?_⟩
                        · rw [List.mem_singleton.mp hy]
                          exact kn_str (small (by decide +kernel))
                        · unfold picOk
                          have z : [V.str ("" : Str)].all rowOk = false := by
                            show (rowOk (.str ("" : Str)) && true) = false
                            rw [s_empty, rowOk_len (.inl rfl)]
                            rfl
                          rw [z, Bool.and_false, Bool.false_and]
                      · exact .inl ⟨_, .str _, rfl, by decide, rfl⟩
                      · exact .inl ⟨_, .lst (SqL.of f5), rfl, by decide, rfl⟩
              · rintro _ G6 ⟨l3, vs, rfl, sm6, nl3, hl3, lv0, lv1, avs⟩
                have D6 := D5.same sm6
                have dn6 := dn5.trans (Dn.same sm6)
                obtain ⟨n3d, n3g⟩ := D5.new nl3
                refine ⟨.ref l3, rfl, .ref d, rfl, .ref l3, rfl, l3, vs, rfl, .inl (SqL.of hl3), d, g, c, (vs.length : Int), rfl, D6, by omega, by omega, fun n H7 n0 n1 D7 dn7 => ?_⟩
                obtain ⟨j, rfl⟩ := Int.eq_ofNat_of_zero_le n0
                have hj : j < vs.length := by omega
                have hx : vs[j]? = some vs[j] := List.getElem?_eq_getElem hj
                exact ⟨l3, vs, (j : Int), vs[j], rfl, rfl, SqL.of (dn7 _ _ hl3 n3d n3g), atI_nat hx, q _ H7 ((avs _ (List.getElem_mem hj)).dn dn7 D6 D7) D7 (dn6.trans dn7)⟩
end
end Dt
/-! the end of a law whose own body asks who is around it: the law is run at its caller alone -/
namespace L2X
open PySem PySem.Spec PyProof.Rows L2 LamX
abbrev tabO : Obj := { cls := .none, data := .fields #[] }
abbrev lstO (vs : List Value) : Obj := { cls := .type "list", data := .seq vs.toArray }
/-- what is under watch when the law begins: the tables; the script, if the written part has it not -/
def beginH (K : PySem.W.Frag) (cs : List (Addr × Addr)) (a : Addr) (vs : List Value) (ns : List Int) : Hp := fun b =>
  if b ∈ cs.map (·.2) then some (.tbl #[]) else if b = a ∧ K.lookup a = none then some (.frz (lstO vs) (.lst (ns.map V.int))) else none
section
variable {P : Program} {w : World} {K : PySem.W.Frag} {mg mb : Str → Option Value} {fa a : Addr} {cs : List (Addr × Addr)} {s : Shared} {vs : List Value} {ns : List Int}
theorem begin_tab {p : Addr × Addr} (hp : p ∈ cs) : beginH K cs a vs ns p.2 = some (.tbl #[]) := by
  unfold beginH
  exact if_pos (List.mem_map.mpr ⟨p, hp, rfl⟩)
theorem begin_some {b : Addr} {u : HO} (e : beginH K cs a vs ns b = some u) : (b ∈ cs.map (·.2) ∧ u = .tbl #[]) ∨ (b = a ∧ K.lookup a = none ∧ u = .frz (lstO vs) (.lst (ns.map V.int))) := by
  unfold beginH at e
  split at e
  · rename_i h
    exact .inl ⟨h, (Option.some.inj e).symm⟩
  · split at e
    · rename_i h
      exact .inr ⟨h.1, h.2, (Option.some.inj e).symm⟩
    · cases e
theorem begin_none (hT : ∀ p ∈ cs, s.heap.get? p.2 = some tabO) (ha : s.heap.get? a = some (lstO vs)) {b : Addr} {o : Obj} (e : s.heap.get? b = some o) (n1 : o ≠ tabO) (n2 : o ≠ lstO vs) : beginH K cs a vs ns b = none := by
  cases q : beginH K cs a vs ns b with
  | none => rfl
  | some u =>
    exfalso
    rcases begin_some q with ⟨hm, _⟩ | ⟨rfl, _, _⟩
    · obtain ⟨p, hp, rfl⟩ := List.mem_map.mp hm
      rw [hT p hp] at e
      exact n1 (Option.some.inj e).symm
    · rw [ha] at e
      exact n2 (Option.some.inj e).symm
theorem law_callG (KX : K.In s.heap) (hns : s.heap.Ns mainGlobals mg) (hb : s.heap.Ns builtinsNs mb) (hbb : ∀ x : Str, x ≠ "__name__" → mb x = bootBuiltins x) (hlim : s.heap.NoLimit) (hg : s.gens = #[])
    (hT : ∀ p ∈ cs, s.heap.get? p.2 = some tabO) (nT : ∀ p ∈ cs, K.lookup p.2 = none) (C : ∀ p ∈ cs, PySem.W.CodeHd s.heap p.1 p.2)
    (hbm : ∃ (bm : Addr) (ob : Obj), mg "__builtins__" = some (.ref bm) ∧ bm ≠ builtinsNs ∧ s.heap.get? bm = some ob ∧ ob.cls = .type "module" ∧ ob.dict = some builtinsNs ∧ ob.data = .plain)
    (ha : s.heap.get? a = some (lstO vs)) (hi : IntsAre vs ns) (hl : ns.length ≤ sizeLine)
    (run : ∀ (base : Heap) (H : Hp), K.In base → base.Ns mainGlobals mg → (∀ p ∈ cs, TabB base mg p.1 p.2) → (∀ p ∈ cs, H p.2 = some (.tbl #[])) → SqL K H a (ns.map V.int) → Env0 P w K mg base callerA [] s H →
      codeAny (model P w) callerA (.call (.ref fa) ⟨[.ref a], []⟩) (CR L2.CX0 [] P w H s (fun v _ => v = .bl true) L2.E0) s) :
    codeAny (model P w) callerA (.call (.ref fa) ⟨[.ref a], []⟩) (fun r s' => r = .ok (.ret (.bool true)) ∧ OldK s.heap s'.heap ∧ s'.os = s.os ∧ AllBare s'.gens) s := by
  have rv := vals_ints hi
  have lv := hi.length
  generalize eH : beginH K cs a vs ns = H
  have tabs : ∀ p ∈ cs, H p.2 = some (.tbl #[]) := fun p hp => by rw [← eH]; exact begin_tab hp
  have off : ∀ {b : Addr} {o : Obj}, s.heap.get? b = some o → o ≠ tabO → o ≠ lstO vs → H b = none := fun e n1 n2 => by rw [← eH]; exact begin_none hT ha e n1 n2
  have isT : ∀ {b : Addr}, b ∈ cs.map (·.2) → s.heap.get? b = some tabO := by
    intro b hm
    obtain ⟨p, hp, rfl⟩ := List.mem_map.mp hm
    exact hT p hp
  have aT : a ∉ cs.map (·.2) := by
    intro hm
    have z := isT hm
    rw [ha] at z
    cases z
  -- the ground
  have nsK : ∀ {b : Addr} {m : Str → Option Value}, s.heap.Ns b m → (hidT s.heap H).Ns b m := by
    rintro b m ⟨o, es, ep, e, d, r⟩
    refine ⟨o, es, ep, hidT_get e (off e ?_ ?_), d, r⟩ <;> (rintro rfl; cases d)
  have inK : K.In (hidT s.heap H) := by
    intro b o e
    refine hidT_get (KX b o e) ?_
    cases q : H b with
    | none => rfl
    | some u =>
      exfalso
      rw [← eH] at q
      rcases begin_some q with ⟨hm, _⟩ | ⟨rfl, hk, _⟩
      · obtain ⟨p, hp, rfl⟩ := List.mem_map.mp hm
        rw [nT p hp] at e
        cases e
      · rw [hk] at e
        cases e
  have mod : L2.Mod K mg (hidT s.heap H) := by
    obtain ⟨mc, h1, h2⟩ := hlim
    exact ⟨inK, nsK hns, ⟨mb, nsK hb, hbb⟩, ⟨mc, nsK h1, h2⟩⟩
  have tabB : ∀ p ∈ cs, TabB (hidT s.heap H) mg p.1 p.2 := by
    intro p hp
    have tp := hT p hp
    obtain ⟨og, es, ep, gg, gd, _⟩ := id hns
    constructor
    · obtain ⟨o, us, file, tf, flags, tg, inF, text, tt, e1, r1, r2, r3, r4, r5, r6, r7, r8, hne⟩ := C p hp
      refine ⟨o, us, file, tf, flags, tg, inF, text, tt, hidT_get e1 (off e1 ?_ ?_), r1, r2, r3, r4, r5, r6, r7, r8, hne⟩
      · rintro rfl
        cases r2
        simp at r3
      · rintro rfl
        cases r2
    · obtain ⟨bm, ob, b1, b2, b3, b4, b5, b6⟩ := hbm
      refine ⟨bm, ob, b1, b2, ?_, ?_, hidT_get b3 (off b3 ?_ ?_), b4, b5, b6⟩
      · rintro rfl
        rw [gg] at b3
        cases b3
        rw [gd] at b6
        cases b6
      · rintro rfl
        rw [tp] at b3
        cases b3
        cases b6
      · rintro rfl
        cases b6
      · rintro rfl
        cases b6
    · intro z
      rw [z, tp] at gg
      cases gg
      cases gd
  have hokH : HOk P w H s.heap := by
    intro b u e
    rw [← eH] at e
    rcases begin_some e with ⟨hm, rfl⟩ | ⟨rfl, _, rfl⟩
    · exact isT hm
    · exact ⟨ha, by rw [List.length_map]; exact hl, vs, _, rv, ha⟩
  have sq : SqL K H a (ns.map V.int) := by
    cases hk : K.lookup a with
    | some o =>
      have z := KX a o hk
      rw [ha] at z
      cases z
      exact .inr ⟨_, vs.toArray, _, hk, rfl, rfl, rfl, by rw [List.size_toArray, lv]; exact hl, by simpa using rv⟩
    | none =>
      refine .inl (.inr ⟨lstO vs, ?_⟩)
      rw [← eH]
      unfold beginH
      rw [if_neg aT, if_pos ⟨rfl, hk⟩]
  have e0 : Env0 P w K mg (hidT s.heap H) callerA [] s H :=
    by
    constructor
    · rfl
    · exact mod
    · exact fun b o e => of_hidT e
    · exact Nat.le_of_eq (hidT_size _ _)
    · trivial
    · exact fun b hb => nomatch (show b ∈ ([] : List Addr) from hb)
    · exact hokH
    · exact .of_eq hg
  refine codeAny_mono (run _ H inK (nsK hns) tabB tabs sq e0) ?_
  rintro r s' h
  cases r with
  | error e => exact (show False from h).elim
  | ok fl =>
    cases fl with
    | next => exact False.elim h
    | brk => exact False.elim h
    | cont => exact False.elim h
    | ret u =>
      obtain ⟨v, H', os, bare, un, hok', rr, rfl⟩ := h
      obtain rfl : u = Value.bool true := rr
      have stay : ∀ b o, b ∉ cs.map (·.2) → s.heap.get? b = some o → s'.heap.get? b = some o := by
        intro b o nb e
        cases q : H b with
        | none => exact un.keep b o e q (fun z => nomatch z) (fun z => nomatch z)
        | some u =>
          have q2 := q
          rw [← eH] at q2
          rcases begin_some q2 with ⟨hm, _⟩ | ⟨rfl, _, rfl⟩
          · exact absurd hm nb
          · obtain ⟨z, _⟩ := hok' _ _ (un.frzs _ _ _ q)
            rw [ha] at e
            cases e
            exact z
      have grow : ∀ p ∈ cs, ∃ more : Array Value, s'.heap.get? p.2 = some { cls := .none, data := .fields more } := by
        intro p hp
        obtain ⟨more, z⟩ := un.tbls p.2 #[] (tabs p hp)
        exact ⟨_, hok' p.2 _ z⟩
      refine ⟨rfl, ⟨fun b o e => ?_, fun b o e => ?_⟩, os, bare⟩
      · by_cases hb : b ∈ cs.map (·.2)
        · obtain ⟨p, hp, rfl⟩ := List.mem_map.mp hb
          obtain ⟨more, hm⟩ := grow p hp
          rw [hT p hp] at e
          cases e
          exact .inr (.inl ⟨((C p hp).tab (hT p hp)).isCodeTable, rfl, #[], more, rfl, by rw [Array.empty_append]; exact hm⟩)
        · exact .inl (stay b o hb e)
      · by_cases hb : b ∈ cs.map (·.2)
        · obtain ⟨p, hp, rfl⟩ := List.mem_map.mp hb
          obtain ⟨more, hm⟩ := grow p hp
          exact ⟨_, hm⟩
        · exact ⟨o, stay b o hb e⟩
end
end L2X
namespace L2X
open PySem PySem.Spec PyProof.Rows L2
/-- repr(a), a data, where no repr runs around -/
theorem call_reprD {X : Cx} (hgd : X.A.guards = some []) (hu : X.A.units + 64 < cLine) : CallR X (.builtin "repr") (fun xs H Q => ∃ a d, xs = [.ref a] ∧ Dp X.K H (.ref a) d ∧ d.showable = true ∧ d.hasDict = false ∧ d.depth ≤ 60 ∧ d.shown.length ≤ sizeLine ∧ Q (.str d.shown) H) := by
  intro pins s σ H xs us Q I r h
  obtain ⟨a, d, rfl, dp, hs, hd, hdp, hz, q⟩ := h
  obtain ⟨u, rfl, rx⟩ := vals1 r
  obtain ⟨as, rd⟩ := Dp.reads I d (.ref a) u dp rx
  cases rx
  exact repr_of_reads' rd hs (fun z => by rw [hd] at z; cases z) hgd (by omega) (fun b o e => e) (fun h' t tk keep => ⟨.str d.shown, H, I.kept (t' := tk) keep, ⟨_, rfl⟩, q⟩) hz
end L2X
namespace Dt
open PySem PySem.Spec PyProof.Rows L2 L2X LamX
/-! ### kinds stay -/
structure Kd (H H' : Hp) : Prop where
  tup : ∀ b xs, H b = some (.tup xs) → H' b = some (.tup xs)
  frz : ∀ b o u, H b = some (.frz o u) → H' b = some (.frz o u)
  lst : ∀ b xs, H b = some (.lst xs) → ∃ ys, H' b = some (.lst ys)
  dct : ∀ b ks, H b = some (.dK ks) → ∃ ls, H' b = some (.dK ls)
theorem Kd.refl {H : Hp} : Kd H H := ⟨fun _ _ e => e, fun _ _ _ e => e, fun _ xs e => ⟨xs, e⟩, fun _ ks e => ⟨ks, e⟩⟩
theorem Kd.trans {H H1 H2 : Hp} (a : Kd H H1) (b : Kd H1 H2) : Kd H H2 where
  tup := fun x xs e => b.tup _ _ (a.tup _ _ e)
  frz := fun x o u e => b.frz _ _ _ (a.frz _ _ _ e)
  lst := fun x xs e => by
    obtain ⟨ys, z⟩ := a.lst _ _ e
    exact b.lst _ _ z
  dct := fun x ks e => by
    obtain ⟨ys, z⟩ := a.dct _ _ e
    exact b.dct _ _ z
theorem Kd.same {H H' : Hp} (s : Same H H') : Kd H H' := ⟨fun _ _ e => s _ _ e, fun _ _ _ e => s _ _ e, fun _ xs e => ⟨xs, s _ _ e⟩, fun _ ks e => ⟨ks, s _ _ e⟩⟩
theorem Kd.ext {H H' : Hp} (s : ExtN H H') : Kd H H' := ⟨fun _ _ e => s _ _ e (fun _ z => nomatch z), fun _ _ _ e => s _ _ e (fun _ z => nomatch z), fun _ xs e => ⟨xs, s _ _ e (fun _ z => nomatch z)⟩, fun _ ks e => ⟨ks, s _ _ e (fun _ z => nomatch z)⟩⟩
theorem Kd.list {H : Hp} {l : Addr} {xs ys : List V} (h : H l = some (.lst xs)) : Kd H (upd H l (.lst ys)) where
  tup := fun b zs e => by rw [upd_ne (ne_of e h (by intro z; cases z))]; exact e
  frz := fun b o u e => by rw [upd_ne (ne_of e h (by intro z; cases z))]; exact e
  lst := fun b zs e => by
    by_cases hb : b = l
    · rw [hb]
      exact ⟨ys, upd_same⟩
    · exact ⟨zs, by rw [upd_ne hb]; exact e⟩
  dct := fun b ks e => ⟨ks, by rw [upd_ne (ne_of e h (by intro z; cases z))]; exact e⟩
theorem Kd.del {H : Hp} {f : Addr} {φ : Heap → Prop} (h : H f = some (.ext φ)) : Kd H (delH H f) where
  tup := fun b zs e => by rw [delH_ne (ne_of e h (by intro z; cases z))]; exact e
  frz := fun b o u e => by rw [delH_ne (ne_of e h (by intro z; cases z))]; exact e
  lst := fun b zs e => ⟨zs, by rw [delH_ne (ne_of e h (by intro z; cases z))]; exact e⟩
  dct := fun b ks e => ⟨ks, by rw [delH_ne (ne_of e h (by intro z; cases z))]; exact e⟩
theorem Kd.sqT {K : PySem.W.Frag} {H H' : Hp} {a : Addr} {xs : List V} (k : Kd H H') (h : SqT K H a xs) : SqT K H' a xs := by
  rcases h with (h | ⟨o, h⟩) | h
  · exact SqT.of (k.tup _ _ h)
  · exact .inl (.inr ⟨o, k.frz _ _ _ h⟩)
  · exact .inr h
theorem Kd.ty {K : PySem.W.Frag} {H H' : Hp} {x : V} {T : String} (k : Kd H H') (t : TyB K H x T) : TyB K H' x T := by
  cases t with
  | non => exact .non
  | bl b => exact .bl b
  | int i => exact .int i
  | str x => exact .str x
  | byt b => exact .byt b
  | lst h =>
    rcases h with (h | ⟨o, h⟩) | h
    · obtain ⟨ys, z⟩ := k.lst _ _ h
      exact .lst (SqL.of z)
    · exact .lst (.inl (.inr ⟨o, k.frz _ _ _ h⟩))
    · exact .lst (.inr h)
  | tup h => exact .tup (k.sqT h)
  | dK h =>
    obtain ⟨ls, z⟩ := k.dct _ _ h
    exact .dK z
theorem Kd.kn {K : PySem.W.Frag} {H H' : Hp} {x : V} (k : Kd H H') (h : Kn K H x) : Kn K H' x := by
  obtain ⟨⟨T, t, ok⟩, z⟩ := h
  exact ⟨⟨T, k.ty t, ok⟩, z⟩
theorem Kd.asked {K : PySem.W.Frag} {H H' : Hp} {x : V} {b : Bool} (k : Kd H H') (h : Asked K H x b) : Asked K H' x b := by
  rcases h with ⟨T, t, ok, ne, e⟩ | ⟨a, xs, e, h1, h2, e2⟩
  · exact .inl ⟨T, k.ty t, ok, ne, e⟩
  · exact .inr ⟨a, xs, e, k.sqT h1, fun l y hy => k.kn (h2 l y hy), e2⟩
theorem Dr.ext {H H' : Hp} {d g c : Addr} (D : Dr H d g c) (s : ExtN H H') : Dr H' d g c := by
  obtain ⟨⟨r, t, h1⟩, ⟨gs, h2, h3⟩, ⟨cs, h4, h5⟩, h6⟩ := D
  exact ⟨⟨r, t, s _ _ h1 (fun _ z => nomatch z)⟩, ⟨gs, s _ _ h2 (fun _ z => nomatch z), h3⟩, ⟨cs, s _ _ h4 (fun _ z => nomatch z), h5⟩, h6⟩
theorem Dr.del {H : Hp} {d g c f : Addr} {φ : Heap → Prop} (D : Dr H d g c) (h : H f = some (.ext φ)) : Dr (delH H f) d g c := by
  obtain ⟨⟨r, t, h1⟩, ⟨gs, h2, h3⟩, ⟨cs, h4, h5⟩, h6⟩ := D
  exact ⟨⟨r, t, by rw [delH_ne (ne_of h1 h (by intro z; cases z))]; exact h1⟩, ⟨gs, by rw [delH_ne (ne_of h2 h (by intro z; cases z))]; exact h2, h3⟩, ⟨cs, by rw [delH_ne (ne_of h4 h (by intro z; cases z))]; exact h4, h5⟩, h6⟩
theorem Dr.updl {H : Hp} {d g c l : Addr} {xs : List V} (D : Dr H d g c) (n1 : l ≠ d) (n2 : l ≠ g) (n3 : l ≠ c) : Dr (upd H l (.lst xs)) d g c := by
  obtain ⟨⟨r, t, h1⟩, ⟨gs, h2, h3⟩, ⟨cs, h4, h5⟩, h6⟩ := D
  exact ⟨⟨r, t, by rw [upd_ne n1.symm]; exact h1⟩, ⟨gs, by rw [upd_ne n2.symm]; exact h2, h3⟩, ⟨cs, by rw [upd_ne n3.symm]; exact h4, h5⟩, h6⟩
theorem Dr.newc {d g c p : Addr} {H : Hp} (D : Dr H d g c) (hn : H p = none) : p ≠ d ∧ p ≠ g ∧ p ≠ c := by
  obtain ⟨h1, h2⟩ := D.new hn
  obtain ⟨_, _, ⟨cs, h4, _⟩, _⟩ := D
  exact ⟨h1, h2, fun z => by rw [z, h4] at hn; cases hn⟩
theorem Dn.tabs {d g c : Addr} {H H' : Hp} {T : List (Addr × Str)} (s : Dn d g H H') (D : Dr H d g c) (h : Tabs T H) : Tabs T H' := by
  obtain ⟨⟨r, t, h1⟩, ⟨gs, h2, _⟩, _, _⟩ := D
  intro p hp
  obtain ⟨ps, e1, e2, e3⟩ := h p hp
  refine ⟨ps, s _ _ e1 (ne_of e1 h1 (by intro z; cases z)) (ne_of e1 h2 (by intro z; cases z)), e2, fun pos cv hc => ?_⟩
  obtain ⟨c0, e4, e5⟩ := e3 pos cv hc
  exact ⟨c0, e4, s _ _ e5 (ne_of e5 h1 (by intro z; unfold CodeO at z; cases z)) (ne_of e5 h2 (by intro z; unfold CodeO at z; cases z))⟩
end Dt
namespace Dt
open PySem PySem.Spec PyProof.Rows L2 L2X LamX
abbrev sLaw : Stmt := topS 54
abbrev nLaw : List Str := ["script", "draw", "turn", "works", "odd", "picture", "spoilt", "work"]
theorem scLaw : FnScope nLaw ["script"] (defScope sLaw) := ⟨rfl, rfl, rfl, by decide +kernel, rfl, by decide +kernel, by decide +kernel⟩
/-! ### the works -/
def forBody : List Stmt := match (defBody sLaw).getD 1 (.Pass ⟨0, 0, 0, 0⟩) with
  | .For _ _ b _ _ => b
  | _ => []
def lamAt (i : Nat) : Expr := match forBody.getD (5 + i) (.Pass ⟨0, 0, 0, 0⟩) with
  | .Assign _ (.List [e] _) _ => e
  | .Expr (.Call _ [e] _ _) _ => e
  | _ => .Constant .none 0 ⟨0, 0, 0, 0⟩
def lamPr (i : Nat) : Arguments := match lamAt i with
  | .Lambda p _ _ _ => p
  | _ => { posonlyargs := [], args := [], vararg := none, kwonlyargs := [], kw_defaults := [], kwarg := none, defaults := [] }
def lamBo (i : Nat) : Expr := match lamAt i with
  | .Lambda _ b _ _ => b
  | _ => .Constant .none 0 ⟨0, 0, 0, 0⟩
def lamSc (i : Nat) : Scope := match lamAt i with
  | .Lambda _ _ s _ => s
  | _ => { kind := .function, names := [], isGenerator := false, isCoroutine := false }
/-- what a work's call asks, by its number -/
def tWork (K : PySem.W.Frag) (C : Addr) (j : Fin 10) (E : XK) : TE :=
  let W : WX := fun cls d _ H => E cls d H
  match j with
  | ⟨0, _⟩ => tCallS (spSize K C) (WE W) (tCons (tVar 4) tNil)
  | ⟨1, _⟩ => tCallS (spRef K C 1) (WE W) (tCons (tVar 4) tNil)
  | ⟨2, _⟩ => tCallS (spRef K C 1) (WE W) (tCons (tVar 4) tNil)
  | ⟨3, _⟩ => tCallS (spRef K C 5) (WE W) (tCons (tVar 4) (tCons (tVar 6) (tCons (tC (.int 0)) (tCons (tC (.int 1)) (tCons (tC (.int 1)) tNil)))))
  | ⟨4, _⟩ => tCallS (spRef K C 2) (WE W) (tCons (tVar 4) (tCons (tC (.int 4)) tNil))
  | ⟨5, _⟩ => tCallS (spRef K C 2) (WE W) (tCons (tVar 4) (tCons (tVar 6) tNil))
  | ⟨6, _⟩ => tCallS (spRef K C 2) (WE W) (tCons (tVar 4) (tCons (tC (.int 3)) tNil))
  | ⟨7, _⟩ => tCallS (spUnl K C) (WE W) (tCons (tVar 4) (tCons (tVar 5) tNil))
  | ⟨8, _⟩ => tCallS (spUnl K C) (WE W) (tCons (tVar 5) (tCons (tVar 4) tNil))
  | ⟨_ + 9, _⟩ => tCallS (spRef K C 2) (WE W) (tCons (tVar 4) (tCons (tVar 6) tNil))
/-- every work is refused -/
theorem work_refused {K : PySem.W.Frag} {C : Addr} (j : Fin 10) {E : XK} {H : Hp} {R : VK} {σ : L2.St} {odd pic sp : V} (h4 : σ[4]? = some (some odd)) (h5 : σ[5]? = some (some pic)) (h6 : σ[6]? = some (some sp)) (ao : Asked K H odd false) (ap : Asked K H pic true)
    (q : ∀ H', Same H H' → E (.ref C) none H') : tWork K C j E σ H R := by
  match j with
  | ⟨0, _⟩ => exact ⟨odd, h4, odd, rfl, .inl ⟨ao, q⟩⟩
  | ⟨1, _⟩ => exact ⟨odd, h4, odd, [], rfl, rfl, ao, q⟩
  | ⟨2, _⟩ => exact ⟨odd, h4, odd, [], rfl, rfl, ao, q⟩
  | ⟨3, _⟩ => exact ⟨odd, h4, sp, h6, odd, _, rfl, rfl, ao, q⟩
  | ⟨4, _⟩ => exact ⟨odd, h4, odd, _, rfl, rfl, ao, q⟩
  | ⟨5, _⟩ => exact ⟨odd, h4, sp, h6, odd, _, rfl, rfl, ao, q⟩
  | ⟨6, _⟩ => exact ⟨odd, h4, odd, _, rfl, rfl, ao, q⟩
  | ⟨7, _⟩ => exact ⟨odd, h4, pic, h5, odd, pic, false, true, rfl, ao, ap, rfl, q⟩
  | ⟨8, _⟩ => exact ⟨pic, h5, odd, h4, pic, odd, true, false, rfl, ap, ao, rfl, q⟩
  | ⟨9, _⟩ => exact ⟨odd, h4, sp, h6, odd, _, rfl, rfl, ao, q⟩
/-- a def of the text as it stands behind the top -/
structure Df (K : PySem.W.Frag) (mg : Str → Option Value) (nm : Str) (st : Stmt) (ps : List Str) : Prop where
  ex : ∃ f fd, Fun K nm nm st f fd ∧ mg nm = some (.ref f) ∧ Binds K fd ps []
/-- .. with its promise -/
structure Pm (P : Program) (w : World) (K : PySem.W.Frag) (mg : Str → Option Value) (base : Heap) (CX : CXT) (k : Nat) (nm : Str) (ps : List Str) (sp : Sp) : Prop where
  ex : ∃ f fd, FnOk P w K mg base CX k f fd ps sp ∧ mg nm = some (.ref f) ∧ PySem.W.keepIn K (.ref f) = true ∧ Binds K fd ps []
/-- all that the works call -/
structure Works (P : Program) (w : World) (K : PySem.W.Frag) (mg : Str → Option Value) (base : Heap) (C : Addr) : Prop where
  size : Pm P w K mg base (L2.CX P w) 6 "size" ["picture"] (spSize K C)
  dots : Pm P w K mg base (L2.CX P w) 6 "dots" ["picture"] (spRef K C 1)
  pieces : Pm P w K mg base (L2.CX P w) 6 "pieces" ["picture"] (spRef K C 1)
  cut : Pm P w K mg base (L2.CX P w) 6 "cut_out" ["picture", "top", "left", "high", "wide"] (spRef K C 5)
  turned : Pm P w K mg base (L2.CX P w) 6 "turned" ["picture", "times"] (spRef K C 2)
  shifted : Pm P w K mg base (L2.CX P w) 6 "shifted" ["picture", "steps"] (spRef K C 2)
  cleaned : Pm P w K mg base (L2.CX P w) 6 "cleaned" ["picture", "most"] (spRef K C 2)
  unlike : Pm P w K mg base (L2.CX P w) 6 "unlike" ["one", "other"] (spUnl K C)
  withT : Pm P w K mg base (L2.CX P w) 6 "with_turned" ["picture", "places"] (spRef K C 2)
section
variable {P : Program} {w : World} {K : PySem.W.Frag} {mg : Str → Option Value} {base : Heap} {C fa cc : Addr} {s : Shared} {H : Hp}
/-- the law's own frame -/
abbrev xLaw (P : Program) (w : World) (K : PySem.W.Frag) (mg : Str → Option Value) (base : Heap) (fa cc : Addr) (s : Shared) (H : Hp) : Cx := (cxOf CX0 P w K mg base nLaw "law" (defScope sLaw) fa (.ref cc) callerA [] s H E0).nox
theorem lamS_all : ∀ j : Fin 10, LamS (defScope sLaw) (lamSc j) := by
  intro j
  match j with
  | ⟨0, _⟩ => exact lamS_by (show lamSB (defScope sLaw) (lamSc 0) = true by decide +kernel)
  | ⟨1, _⟩ => exact lamS_by (show lamSB (defScope sLaw) (lamSc 1) = true by decide +kernel)
  | ⟨2, _⟩ => exact lamS_by (show lamSB (defScope sLaw) (lamSc 2) = true by decide +kernel)
  | ⟨3, _⟩ => exact lamS_by (show lamSB (defScope sLaw) (lamSc 3) = true by decide +kernel)
  | ⟨4, _⟩ => exact lamS_by (show lamSB (defScope sLaw) (lamSc 4) = true by decide +kernel)
  | ⟨5, _⟩ => exact lamS_by (show lamSB (defScope sLaw) (lamSc 5) = true by decide +kernel)
  | ⟨6, _⟩ => exact lamS_by (show lamSB (defScope sLaw) (lamSc 6) = true by decide +kernel)
  | ⟨7, _⟩ => exact lamS_by (show lamSB (defScope sLaw) (lamSc 7) = true by decide +kernel)
  | ⟨8, _⟩ => exact lamS_by (show lamSB (defScope sLaw) (lamSc 8) = true by decide +kernel)
  | ⟨9, _⟩ => exact lamS_by (show lamSB (defScope sLaw) (lamSc 9) = true by decide +kernel)
theorem lamBind_all : ∀ (j : Fin 10) (q : Str) (cl : List (Str × Addr)) (pm cv ctv : Value), bindArgs (PySem.W.kla_fn "<lambda>" q (lamPr j) (lamBo j) (lamSc j) cl pm cv ctv) ⟨[], []⟩ = pure [] := by
  intro j q cl pm cv ctv
  match j with
  | ⟨0, _⟩ => rfl
  | ⟨1, _⟩ => rfl
  | ⟨2, _⟩ => rfl
  | ⟨3, _⟩ => rfl
  | ⟨4, _⟩ => rfl
  | ⟨5, _⟩ => rfl
  | ⟨6, _⟩ => rfl
  | ⟨7, _⟩ => rfl
  | ⟨8, _⟩ => rfl
  | ⟨9, _⟩ => rfl
theorem lamBody_all (Wx : Works P w K mg base C) : ∀ (j : Fin 10) (A : Around) (outer : List Env) (s' : Shared) (H' : Hp) (E : XK) (f c : Addr), Room 6 (A.deeper (lamEnv (xLaw P w K mg base fa cc s H) (lamSc j) s'.heap.objs.size f c)) →
    PE (lamCx (xLaw P w K mg base fa cc s H) A outer s' H' E (lamSc j) f c) (lamBo j) (tWork K C j E) := by
  intro j A outer s' H' E f c hr
  match j, hr with
  | ⟨0, _⟩, hr =>
    obtain ⟨f1, fd1, G, m, kp, b⟩ := Wx.size.ex
    exact pe_callS G hr (by rfl) m kp b (fun σ => passAt (takes_of rfl rfl rfl rfl) σ) (pa_cons (pv 4) pa_nil)
  | ⟨1, _⟩, hr =>
    obtain ⟨f1, fd1, G, m, kp, b⟩ := Wx.dots.ex
    exact pe_callS G hr (by rfl) m kp b (fun σ => passAt (takes_of rfl rfl rfl rfl) σ) (pa_cons (pv 4) pa_nil)
  | ⟨2, _⟩, hr =>
    obtain ⟨f1, fd1, G, m, kp, b⟩ := Wx.pieces.ex
    exact pe_callS G hr (by rfl) m kp b (fun σ => passAt (takes_of rfl rfl rfl rfl) σ) (pa_cons (pv 4) pa_nil)
  | ⟨3, _⟩, hr =>
    obtain ⟨f1, fd1, G, m, kp, b⟩ := Wx.cut.ex
    exact pe_callS G hr (by rfl) m kp b (fun σ => passAt (takes_of rfl rfl rfl rfl) σ) (pa_cons (pv 4) (pa_cons (pv 6) (pa_cons pe_int (pa_cons pe_int (pa_cons pe_int pa_nil)))))
  | ⟨4, _⟩, hr =>
    obtain ⟨f1, fd1, G, m, kp, b⟩ := Wx.turned.ex
    exact pe_callS G hr (by rfl) m kp b (fun σ => passAt (takes_of rfl rfl rfl rfl) σ) (pa_cons (pv 4) (pa_cons pe_int pa_nil))
  | ⟨5, _⟩, hr =>
    obtain ⟨f1, fd1, G, m, kp, b⟩ := Wx.shifted.ex
    exact pe_callS G hr (by rfl) m kp b (fun σ => passAt (takes_of rfl rfl rfl rfl) σ) (pa_cons (pv 4) (pa_cons (pv 6) pa_nil))
  | ⟨6, _⟩, hr =>
    obtain ⟨f1, fd1, G, m, kp, b⟩ := Wx.cleaned.ex
    exact pe_callS G hr (by rfl) m kp b (fun σ => passAt (takes_of rfl rfl rfl rfl) σ) (pa_cons (pv 4) (pa_cons pe_int pa_nil))
  | ⟨7, _⟩, hr =>
    obtain ⟨f1, fd1, G, m, kp, b⟩ := Wx.unlike.ex
    exact pe_callS G hr (by rfl) m kp b (fun σ => passAt (takes_of rfl rfl rfl rfl) σ) (pa_cons (pv 4) (pa_cons (pv 5) pa_nil))
  | ⟨8, _⟩, hr =>
    obtain ⟨f1, fd1, G, m, kp, b⟩ := Wx.unlike.ex
    exact pe_callS G hr (by rfl) m kp b (fun σ => passAt (takes_of rfl rfl rfl rfl) σ) (pa_cons (pv 5) (pa_cons (pv 4) pa_nil))
  | ⟨9, _⟩, hr =>
    obtain ⟨f1, fd1, G, m, kp, b⟩ := Wx.withT.ex
    exact pe_callS G hr (by rfl) m kp b (fun σ => passAt (takes_of rfl rfl rfl rfl) σ) (pa_cons (pv 4) (pa_cons (pv 6) pa_nil))
end
end Dt
namespace Dt
open PySem PySem.Spec PyProof.Rows L2 L2X LamX
theorem passX0 {X : Cx} : Passes (L2.CX X.prog X.w) X E0 := fun _ _ _ _ _ _ _ h => by
  obtain ⟨_, _, _, _, _, _, _, _, _, _, _, _, z⟩ := h
  exact z.elim
/-! ### the works as they stand -/
/-- a work: its lambda, the lambda's code, its number -/
abbrev Wz := Addr × Addr × Fin 10
def CloAt (q : Str) (cells : List (Str × Addr)) (H : Hp) (z : Wz) : Prop :=
  H z.1 = some (CloO q (lamPr z.2.2) (lamBo z.2.2) (lamSc z.2.2) (cloFrom cells (lamSc z.2.2).names []) z.2.1 z.1) ∧ H z.2.1 = some (CodeO z.2.1 q) ∧ z.2.1 ≠ z.1
structure Wk (q : Str) (cells : List (Str × Addr)) (H : Hp) (L : List Wz) : Prop where
  all : ∀ z ∈ L, CloAt q cells H z
  pw : L.Pairwise fun x y => x.1 ≠ y.1 ∧ y.2.1 ≠ x.1
theorem Wk.nil {q : Str} {cells : List (Str × Addr)} {H : Hp} : Wk q cells H [] := ⟨(fun _ h => nomatch h), List.Pairwise.nil⟩
theorem Wk.ext {q : Str} {cells : List (Str × Addr)} {H H' : Hp} {L : List Wz} (h : Wk q cells H L) (s : ExtN H H') : Wk q cells H' L :=
  ⟨fun z hz => let ⟨a, b, c⟩ := h.all z hz; ⟨s _ _ a (fun _ z => by unfold CloO at z; cases z), s _ _ b codeO_ne, c⟩, h.pw⟩
theorem Wk.same {q : Str} {cells : List (Str × Addr)} {H H' : Hp} {L : List Wz} (h : Wk q cells H L) (s : Same H H') : Wk q cells H' L := h.ext (ExtN.of s)
theorem Wk.updl {q : Str} {cells : List (Str × Addr)} {H : Hp} {L : List Wz} {l : Addr} {xs ys : List V} (h : Wk q cells H L) (hl : H l = some (.lst xs)) : Wk q cells (upd H l (.lst ys)) L :=
  ⟨fun z hz => by
    obtain ⟨a, b, c⟩ := h.all z hz
    refine ⟨?_, ?_, c⟩
    · rw [upd_ne (ne_of a hl (by intro z; unfold CloO at z; cases z))]
      exact a
    · rw [upd_ne (ne_of b hl (by intro z; unfold CodeO at z; cases z))]
      exact b, h.pw⟩
theorem Wk.snoc {q : Str} {cells : List (Str × Addr)} {H : Hp} {L : List Wz} {z : Wz} (h : Wk q cells H L) (hz : CloAt q cells H z) (n : ∀ x ∈ L, x.1 ≠ z.1 ∧ z.2.1 ≠ x.1) : Wk q cells H (L ++ [z]) := by
  refine ⟨fun y hy => ?_, ?_⟩
  · rcases List.mem_append.mp hy with e | e
    · exact h.all y e
    · rw [List.mem_singleton.mp e]
      exact hz
  · rw [List.pairwise_append]
    refine ⟨h.pw, List.pairwise_singleton _ _, fun x hx y hy => ?_⟩
    rw [List.mem_singleton.mp hy]
    exact n x hx
/-- the first work is called and let go -/
theorem Wk.rest {q : Str} {cells : List (Str × Addr)} {H : Hp} {z : Wz} {L : List Wz} (h : Wk q cells H (z :: L)) : Wk q cells (delH H z.1) L := by
  have pw := List.pairwise_cons.mp h.pw
  refine ⟨fun y hy => ?_, pw.2⟩
  obtain ⟨a, b, c⟩ := h.all y (List.mem_cons_of_mem _ hy)
  obtain ⟨n1, n2⟩ := pw.1 y hy
  exact ⟨by rw [delH_ne n1.symm]; exact a, by rw [delH_ne n2]; exact b, c⟩
theorem heap_has (f : Addr) (q : Str) (pr : Arguments) (bo : Expr) (sc : Scope) (cl : List (Str × Addr)) (c : Addr) : ∃ h : Heap, h.get? f = some (PySem.W.kla_obj "<lambda>" q pr bo sc cl .none c .none) := by
  refine ⟨{ objs := Array.replicate (f + 1) (PySem.W.kla_obj "<lambda>" q pr bo sc cl .none c .none) }, ?_⟩
  have e : (Array.replicate (f + 1) (PySem.W.kla_obj "<lambda>" q pr bo sc cl .none c .none))[f]? = some (PySem.W.kla_obj "<lambda>" q pr bo sc cl .none c .none) := by
    rw [Array.getElem?_replicate, if_pos (Nat.lt_succ_self f)]
  unfold Heap.get?
  rw [e]
theorem code_ne_clo {f : Addr} {q q0 : Str} {pr : Arguments} {bo : Expr} {sc : Scope} {cl : List (Str × Addr)} {c : Addr} : CodeO f q0 ≠ CloO q pr bo sc cl c f := by
  intro z
  unfold CodeO CloO at z
  have e := HO.ext.inj z
  obtain ⟨h, hh⟩ := heap_has f q pr bo sc cl c
  have t : (fun h : Heap => ∃ pm ctv, h.get? f = some (PySem.W.kla_obj "<lambda>" q pr bo sc cl pm c ctv)) h := ⟨_, _, hh⟩
  rw [← e] at t
  obtain ⟨oc, vs, tk, e1, e2, _⟩ := t
  rw [hh] at e1
  cases e1
  cases e2
theorem Tabs.del {T : List (Addr × Str)} {H : Hp} {f : Addr} {q : Str} {pr : Arguments} {bo : Expr} {sc : Scope} {cl : List (Str × Addr)} {c : Addr} (h : Tabs T H) (hf : H f = some (CloO q pr bo sc cl c f)) : Tabs T (delH H f) := by
  intro p hp
  obtain ⟨ps, e1, e2, e3⟩ := h p hp
  refine ⟨ps, ?_, e2, fun pos cv hc => ?_⟩
  · rw [delH_ne (ne_of e1 hf (by intro z; unfold CloO at z; cases z))]
    exact e1
  · obtain ⟨c0, e4, e5⟩ := e3 pos cv hc
    refine ⟨c0, e4, ?_⟩
    have n : c0 ≠ f := by
      rintro rfl
      rw [hf] at e5
      exact code_ne_clo (Option.some.inj e5).symm
    rw [delH_ne n]
    exact e5
end Dt
namespace Dt
open PySem PySem.Spec PyProof.Rows L2 L2X LamX
open SX (S)
theorem Tabs.updl {T : List (Addr × Str)} {H : Hp} {l : Addr} {xs ys : List V} (h : Tabs T H) (hl : H l = some (.lst xs)) : Tabs T (upd H l (.lst ys)) := by
  intro p hp
  obtain ⟨ps, e1, e2, e3⟩ := h p hp
  refine ⟨ps, by rw [upd_ne (ne_of e1 hl (by intro z; cases z))]; exact e1, e2, fun pos cv hc => ?_⟩
  obtain ⟨c0, e4, e5⟩ := e3 pos cv hc
  exact ⟨c0, e4, by rw [upd_ne (ne_of e5 hl (by intro z; unfold CodeO at z; cases z))]; exact e5⟩
/-- what stays through a turn -/
structure Bag (K : PySem.W.Frag) (T : List (Addr × Str)) (H : Hp) (d g c : Addr) (odd pic : V) : Prop where
  dr : Dr H d g c
  tb : Tabs T H
  ao : Asked K H odd false
  ap : Asked K H pic true
section
variable {K : PySem.W.Frag} {T : List (Addr × Str)} {H H' : Hp} {d g c l : Addr} {odd pic : V} {L : List Wz} {q : Str} {cells : List (Str × Addr)}
theorem Bag.same (B : Bag K T H d g c odd pic) (s : Same H H') : Bag K T H' d g c odd pic := ⟨B.dr.same s, B.tb.ext s, (Kd.same s).asked B.ao, (Kd.same s).asked B.ap⟩
theorem Bag.ext (B : Bag K T H d g c odd pic) (s : ExtN H H') (t : Tabs T H') : Bag K T H' d g c odd pic := ⟨B.dr.ext s, t, (Kd.ext s).asked B.ao, (Kd.ext s).asked B.ap⟩
theorem Bag.updl {xs ys : List V} (B : Bag K T H d g c odd pic) (h : H l = some (.lst xs)) (n1 : l ≠ d) (n2 : l ≠ g) (n3 : l ≠ c) : Bag K T (upd H l (.lst ys)) d g c odd pic := ⟨B.dr.updl n1 n2 n3, Tabs.updl B.tb h, (Kd.list h).asked B.ao, (Kd.list h).asked B.ap⟩
theorem Bag.del {f c0 : Addr} {pr : Arguments} {bo : Expr} {sc : Scope} {cl : List (Str × Addr)} (B : Bag K T H d g c odd pic) (h : H f = some (CloO q pr bo sc cl c0 f)) : Bag K T (delH H f) d g c odd pic :=
  ⟨B.dr.del h, Tabs.del B.tb h, (Kd.del h).asked B.ao, (Kd.del h).asked B.ap⟩
theorem Bag.dn (B : Bag K T H d g c odd pic) (s : Dn d g H H') (D' : Dr H' d g c) : Bag K T H' d g c odd pic := ⟨D', Dn.tabs s B.dr B.tb, B.ao.dn s B.dr D', B.ap.dn s B.dr D'⟩
def refs (L : List Wz) : List V := L.map fun z => V.ref z.1
theorem refs_len (L : List Wz) : (refs L).length = L.length := List.length_map _
/-- the turn's state: the works so far in the list l -/
structure Sta (K : PySem.W.Frag) (T : List (Addr × Str)) (q : Str) (cells : List (Str × Addr)) (H : Hp) (d g c : Addr) (odd pic : V) (l : Addr) (L : List Wz) : Prop where
  bag : Bag K T H d g c odd pic
  wk : Wk q cells H L
  ls : H l = some (.lst (refs L))
  n1 : l ≠ d
  n2 : l ≠ g
  n3 : l ≠ c
/-- one more work -/
theorem wk_new {H1 : Hp} {j : Fin 10} {f k : Addr} (W : Wk q cells H L) (ext : ExtN H H1) (hc : H1 k = some (CodeO k q)) (hf1 : H1 f = none)
    (apart : ∀ b q' pr' body' sc' cl' c', H1 b = some (CloO q' pr' body' sc' cl' c' b) → k ≠ b) :
    Wk q cells (upd H1 f (CloO q (lamPr j) (lamBo j) (lamSc j) (cloFrom cells (lamSc j).names []) k f)) (L ++ [(f, k, j)]) := by
  have W1 := W.ext ext
  have nk : k ≠ f := ne_of_none hc hf1
  refine (W1.same (same_upd hf1)).snoc ⟨upd_same, ?_, nk⟩ fun x hx => ⟨ne_of_none (W1.all x hx).1 hf1, apart _ _ _ _ _ _ _ (W1.all x hx).1⟩
  show upd H1 f _ k = _
  rw [upd_ne nk]
  exact hc
theorem bag_new {H1 : Hp} {f : Addr} {o : HO} (B : Bag K T H d g c odd pic) (ext : ExtN H H1) (tabs : Tabs T H1) (hf1 : H1 f = none) : Bag K T (upd H1 f o) d g c odd pic := (B.ext ext tabs).same (same_upd hf1)
theorem push {X : Cx} {σ : L2.St} {D : Ends} {H : Hp} (j : Fin 10) (h3 : σ[3]? = some (some (.ref l))) (hq : lamQ X = q) (hc : X.env.cells = cells) (hL : L.length ≤ 100)
    (S0 : Sta K T q cells H d g c odd pic l L) (nx : ∀ H' z, Sta K T q cells H' d g c odd pic l (L ++ [z]) → D.nx σ H') :
    tDrop (tBM K "list" rAppend (tVar 3) (tCons (tLamV T X (lamPr j) (lamBo j) (lamSc j)) tNil)) D σ H := by
  subst hq
  subst hc
  have hls := S0.ls
  refine ⟨.ref l, h3, .inl ⟨rfl, refs L, SqL.of hls⟩, S0.bag.tb, fun f k H1 ext tabs hc hf1 hf0 apart => ?_⟩
  have e2 := same_upd (o := CloO (lamQ X) (lamPr j) (lamBo j) (lamSc j) (cloFrom X.env.cells (lamSc j).names []) k f) hf1 l _ (ext _ _ hls (fun _ z => nomatch z))
  refine ⟨l, refs L, .ref f, rfl, rfl, e2, ?_, nx _ (f, k, j) ⟨?_, ?_, ?_, S0.n1, S0.n2, S0.n3⟩⟩
  · rw [refs_len]
    exact small1000 (by omega)
  · exact (bag_new S0.bag ext tabs hf1).updl e2 S0.n1 S0.n2 S0.n3
  · exact (wk_new S0.wk ext hc hf1 apart).updl e2
  · show upd _ l _ l = _
    rw [upd_same]
    unfold refs
    rw [List.map_append]
    rfl
theorem dpStrs {w : Str} : ∀ n, DpAll K H (List.replicate n (.str w)) (List.replicate n (.str w))
  | 0 => .nil
  | n + 1 => .cons (.str w) (dpStrs n)
theorem kn_rows {high wide : Nat} {rs : List (List Nat)} (h : PicR high wide rs) : ∀ y ∈ rs.map rv, Kn K H y := by
  intro y hy
  obtain ⟨x, hx, rfl⟩ := List.mem_map.mp hy
  refine kn_str ?_
  show x.length ≤ sizeLine
  have := (h.row x hx).len
  have := h.w1
  exact Nat.le_of_lt (small1000 (by omega))
theorem askPic {high wide : Nat} {rs : List (List Nat)} {a : Addr} (h : PicR high wide rs) (e : H a = some (.tup (rs.map rv))) : Asked K H (.ref a) true :=
  .inr ⟨a, _, rfl, SqT.of e, fun _ => kn_rows h, (picOk_pic h).symm⟩
theorem sta_one {H1 : Hp} {j : Fin 10} {f k : Addr} (B : Bag K T H d g c odd pic) (ext : ExtN H H1) (tabs : Tabs T H1) (hc : H1 k = some (CodeO k q)) (hf1 : H1 f = none)
    (apart : ∀ b q' pr' body' sc' cl' c', H1 b = some (CloO q' pr' body' sc' cl' c' b) → k ≠ b)
    (hl : upd H1 f (CloO q (lamPr j) (lamBo j) (lamSc j) (cloFrom cells (lamSc j).names []) k f) l = none) :
    Sta K T q cells (upd (upd H1 f (CloO q (lamPr j) (lamBo j) (lamSc j) (cloFrom cells (lamSc j).names []) k f)) l (.lst [.ref f])) d g c odd pic l [(f, k, j)] := by
  have B1 := bag_new (o := CloO q (lamPr j) (lamBo j) (lamSc j) (cloFrom cells (lamSc j).names []) k f) B ext tabs hf1
  obtain ⟨m1, m2, m3⟩ := B1.dr.newc hl
  exact ⟨B1.same (same_upd hl), (wk_new (L := []) Wk.nil ext hc hf1 apart).same (same_upd hl), upd_same, m1, m2, m3⟩
theorem pushM {X : Cx} {σ : L2.St} {D : Ends} {H : Hp} {u : TS} (j : Fin 10) (h3 : σ[3]? = some (some (.ref l))) (hq : lamQ X = q) (hc : X.env.cells = cells) (hL : L.length ≤ 100)
    (S0 : Sta K T q cells H d g c odd pic l L) (nx : ∀ H' L', L'.length = L.length + 1 → Sta K T q cells H' d g c odd pic l L' → u D σ H') :
    C8.tCut (tDrop (tBM K "list" rAppend (tVar 3) (tCons (tLamV T X (lamPr j) (lamBo j) (lamSc j)) tNil))) u D σ H :=
  ⟨fun σ' H' => σ' = σ ∧ ∃ L', L'.length = L.length + 1 ∧ Sta K T q cells H' d g c odd pic l L', push j h3 hq hc hL S0 fun H' z S1 => ⟨rfl, _, by rw [List.length_append]; rfl, S1⟩, fun σ' H' ⟨e, L', e1, S1⟩ => by
    subst e
    exact nx H' L' e1 S1⟩
/-- one work is called and let go; its word stands in the list D -/
theorem next_work {i : Nat} {D : Addr} {z : Wz} {H3 H5 : Hp} {w0 : Str} (hD : D ≠ d ∧ D ≠ g ∧ D ≠ c) (hDl : D ≠ l) (B : Bag K T H3 d g c odd pic) (W : Wk q cells H3 (L.drop i)) (hl : H3 l = some (.lst (refs L))) (h3 : H3 D = some (.lst (List.replicate i (.str w0)))) (hz : L[i]? = some z)
    (s : Same (delH H3 z.1) H5) : H5 D = some (.lst (List.replicate i (.str w0))) ∧ Bag K T (upd H5 D (.lst (List.replicate i (.str w0) ++ [.str w0]))) d g c odd pic ∧ Wk q cells (upd H5 D (.lst (List.replicate i (.str w0) ++ [.str w0]))) (L.drop (i + 1)) ∧
      (upd H5 D (.lst (List.replicate i (.str w0) ++ [.str w0]))) l = some (.lst (refs L)) ∧ (upd H5 D (.lst (List.replicate i (.str w0) ++ [.str w0]))) D = some (.lst (List.replicate (i + 1) (.str w0))) := by
  have e : L.drop i = z :: L.drop (i + 1) := by
    obtain ⟨h1, h2⟩ := List.getElem?_eq_some_iff.mp hz
    rw [List.drop_eq_getElem_cons h1, h2]
  rw [e] at W
  obtain ⟨clo, _, _⟩ := W.all z List.mem_cons_self
  have d5 : H5 D = some (.lst (List.replicate i (.str w0))) := s _ _ (by rw [delH_ne (ne_of h3 clo (by intro z; unfold CloO at z; cases z))]; exact h3)
  have l5 : H5 l = some (.lst (refs L)) := s _ _ (by rw [delH_ne (ne_of hl clo (by intro z; unfold CloO at z; cases z))]; exact hl)
  refine ⟨d5, ((B.del clo).same s).updl d5 hD.1 hD.2.1 hD.2.2, ((W.rest).same s).updl d5, ?_, ?_⟩
  · rw [upd_ne hDl.symm]
    exact l5
  · rw [upd_same, ← List.replicate_succ']
end
end Dt
namespace Dt
open PySem PySem.Spec PyProof.Rows L2 L2X LamX
open SX (S)
section
variable {P : Program} {w : World} {K : PySem.W.Frag} {mg : Str → Option Value} {base : Heap} {C fa cc PP : Addr}
/-- all that the law calls -/
structure LawFs (P : Program) (w : World) (K : PySem.W.Frag) (mg : Str → Option Value) (base : Heap) (C : Addr) : Prop where
  tx : Tx mg
  rp : mg "repr" = none
  B : Pm P w K mg base CX0 8 "_law_begun" ["script"] (spBegun K)
  Z : Pm P w K mg base CX0 8 "_law_sized" ["draw"] spSized
  O : Pm P w K mg base CX0 8 "_law_odd_picture" ["draw", "picture"] (spOdd K)
  I : Pm P w K mg base CX0 8 "is_picture" ["thing"] (spIsPic K)
  Q : Pm P w K mg base CX0 8 "_law_pick" ["draw", "some"] (spPick K)
  Wx : Works P w K mg base C
  wd : Pm P w K mg base CX0 7 "_law_word" ["e"] (spWord C "picture")
  CD : ∃ a, mg "DotError" = some (.ref a) ∧ PySem.W.exmOne K (.ref C) (.ref a) = some true
  R : Df K mg "_law_refused" sRef ["work"]
theorem law_run {dV kV doc pm ct oc : Value} {an od : Option Addr} {osl : Array (Option Value)} {s : Shared} {H : Hp} {a : Addr} {ns : List Int}
    (lk : K.lookup fa = some ⟨oc, od, .func (PySem.W.fnOf "law" "law" (defArgs sLaw) (defBody sLaw) (defScope sLaw) dV kV doc pm an (.ref cc) ct), osl⟩) (hcd : PySem.W.codeIn K (.ref cc) "law" = true)
    (hb : ∀ (s : Shared) (u : Value), BindsTo s (PySem.W.fnOf "law" "law" (defArgs sLaw) (defBody sLaw) (defScope sLaw) dV kV doc pm an (.ref cc) ct) ⟨[u], []⟩ [("script", u)])
    (L : LawFs P w K mg base C) (TB : TabB base mg cc PP) (hr9 : Room 9 callerA) (e0 : Env0 P w K mg base callerA [] s H) (hT : H PP = some (.tbl #[])) (hS : SqL K H a (ns.map V.int)) (hl : ns.length ≤ 63) :
    codeAny (model P w) callerA (.call (.ref fa) ⟨[.ref a], []⟩) (CR CX0 [] P w H s (fun v _ => v = .bl true) E0) s := by
  refine run_ofS (N := nLaw) (ps := ["script"]) (us := [.ref a]) (vs := [.ref a]) lk hcd scLaw hr9 e0 (hb s (.ref a)) (.cons rfl .nil) rfl fun hr8 => ?_
  have nd := scLaw.nd
  have hu64 : (callerA.deeper (envOfC "law" (defScope sLaw) s.heap.objs.size fa (.ref cc))).units + 64 < cLine := by
    have := hr8.un
    omega
  have X0 := L.tx
  have rp := L.rp
  have Wx := L.Wx
  obtain ⟨fB, fdB, GB, mB, kB, bB⟩ := L.B.ex
  obtain ⟨fZ, fdZ, GZ, mZ, kZ, bZ⟩ := L.Z.ex
  obtain ⟨fO, fdO, GO, mO, kO, bO⟩ := L.O.ex
  obtain ⟨fI, fdI, GI, mI, kI, bI⟩ := L.I.ex
  obtain ⟨fK, fdK, GK, mK, kK, bK⟩ := L.Q.ex
  obtain ⟨fS, fdS, GS, mS, kS, bS⟩ := L.Wx.size.ex
  obtain ⟨fW, fdW, GW, mW, kW, bW⟩ := L.wd.ex
  obtain ⟨CD, mD, exm⟩ := L.CD
  obtain ⟨fR, fdR, FR, mR, bR⟩ := L.R.ex
  have kR := FR.kp
  obtain ⟨ocR, odR, kVR, docR, pmR, anR, cdR, ctR, oslR, rfl, lkR, hcR⟩ := FR.ex
  have hrB := hr8
  have hrZ := hr8
  have hrO := hr8
  have hrI := hr8
  have hrK := hr8
  have hrS : Room 6 _ := hr8.mono (by decide)
  have hG : GivesR (xLaw P w K mg base fa cc s H) 7 ["work", "error", "e"] "_law_refused" (defScope sRef) fR cdR (defBody sRef) "work" (lamQ (xLaw P w K mg base fa cc s H)) (TRef C "picture") := ref_gives (k := 6) GW mW kW bW mD exm
  refine ⟨_, PSs.nox (pss_cons (ps_set (i := 1) nd rfl (.inl rfl) (pe_call GB hrB (by rfl) mB kB bB .nil pass0 (pa_cons (pv 0) pa_nil)))
      (pss_cons (ps_for PassesOwn.never rfl (pi_range1 rfl X0.range (pa_cons pe_int pa_nil)) (pg_name (i := 2) nd rfl (.inl rfl))
        (C8.pss_cut (ps_set (i := 5) nd rfl (.inr rfl) (pe_call GZ hrZ (by rfl) mZ kZ bZ .nil pass0 (pa_cons (pv 1) pa_nil)))
          (C8.pss_cut (ps_set (i := 4) nd rfl (.inr rfl) (pe_call GO hrO (by rfl) mO kO bO .nil pass0 (pa_cons (pv 1) (pa_cons (pv 5) pa_nil))))
          (C8.pss_cut (ps_if (pt_cmpR op_ne (pe_callB (call_reprD rfl hu64) (by rfl) rp (by decide +kernel) (pa_cons (pe_lst (pa_cons (pe_call GI hrI (by rfl) mI kI bI .nil pass0 (pa_cons (pv 5) pa_nil)) (pa_cons (pe_call GI hrI (by rfl) mI kI bI .nil pass0 (pa_cons (pv 4) pa_nil)) pa_nil))) pa_nil)) (pe_callB (call_reprD rfl hu64) (by rfl) rp (by decide +kernel) (pa_cons (pe_lst (pa_cons pe_bl (pa_cons pe_bl pa_nil))) pa_nil)) (nomark _)) (pss_one (ps_ret pe_bl)) pss_nil)
          (C8.pss_cut (ps_if (pt_cmpR (op_neD hu64) (pe_call GS hrS (by rfl) mS kS bS .nil passX0 (pa_cons (pv 5) pa_nil)) (pe_tup (pa_cons (pe_callB call_len_seq (by rfl) X0.len PySem.boot_len (pa_cons (pv 5) pa_nil)) (pa_cons (pe_callB call_len_str (by rfl) X0.len PySem.boot_len (pa_cons (pe_ix (r := rIxT K) ix_tup (pv 5) pe_int (fun _ _ => rfl)) pa_nil)) pa_nil))) (nomark _)) (pss_one (ps_ret pe_bl)) pss_nil)
          (C8.pss_cut (ps_set (i := 6) nd rfl (.inr rfl) (pe_call GK hrK (by rfl) mK kK bK .nil pass0 (pa_cons (pv 1) (pa_cons (pe_lst (pa_cons pe_non (pa_cons (pe_un un_neg pe_int) (pa_cons pe_int (pa_cons pe_str (pa_cons (pe_lst (pa_cons pe_int pa_nil)) (pa_cons pe_dnewK pa_nil))))))) pa_nil))))
          (C8.pss_cut (ps_set (i := 3) nd rfl (.inl rfl) (pe_lst (pa_cons (pe_lamV TB rfl (List.mem_singleton.mpr rfl) (fun p hp _ => by rw [List.mem_singleton.mp hp]) (lamS_all 0) rfl) pa_nil)))
          (C8.pss_cut (ps_expr (pe_bm PySem.F.plainAttrs_list PySem.F.slot_list_append PySem.F.type_list_append mt_append (pv 3) (pa_cons (pe_lamV TB rfl (List.mem_singleton.mpr rfl) (fun p hp _ => by rw [List.mem_singleton.mp hp]) (lamS_all 1) rfl) pa_nil)))
          (C8.pss_cut (ps_expr (pe_bm PySem.F.plainAttrs_list PySem.F.slot_list_append PySem.F.type_list_append mt_append (pv 3) (pa_cons (pe_lamV TB rfl (List.mem_singleton.mpr rfl) (fun p hp _ => by rw [List.mem_singleton.mp hp]) (lamS_all 2) rfl) pa_nil)))
          (C8.pss_cut (ps_expr (pe_bm PySem.F.plainAttrs_list PySem.F.slot_list_append PySem.F.type_list_append mt_append (pv 3) (pa_cons (pe_lamV TB rfl (List.mem_singleton.mpr rfl) (fun p hp _ => by rw [List.mem_singleton.mp hp]) (lamS_all 3) rfl) pa_nil)))
          (C8.pss_cut (ps_expr (pe_bm PySem.F.plainAttrs_list PySem.F.slot_list_append PySem.F.type_list_append mt_append (pv 3) (pa_cons (pe_lamV TB rfl (List.mem_singleton.mpr rfl) (fun p hp _ => by rw [List.mem_singleton.mp hp]) (lamS_all 4) rfl) pa_nil)))
          (C8.pss_cut (ps_expr (pe_bm PySem.F.plainAttrs_list PySem.F.slot_list_append PySem.F.type_list_append mt_append (pv 3) (pa_cons (pe_lamV TB rfl (List.mem_singleton.mpr rfl) (fun p hp _ => by rw [List.mem_singleton.mp hp]) (lamS_all 5) rfl) pa_nil)))
          (C8.pss_cut (ps_expr (pe_bm PySem.F.plainAttrs_list PySem.F.slot_list_append PySem.F.type_list_append mt_append (pv 3) (pa_cons (pe_lamV TB rfl (List.mem_singleton.mpr rfl) (fun p hp _ => by rw [List.mem_singleton.mp hp]) (lamS_all 6) rfl) pa_nil)))
          (C8.pss_cut (ps_expr (pe_bm PySem.F.plainAttrs_list PySem.F.slot_list_append PySem.F.type_list_append mt_append (pv 3) (pa_cons (pe_lamV TB rfl (List.mem_singleton.mpr rfl) (fun p hp _ => by rw [List.mem_singleton.mp hp]) (lamS_all 7) rfl) pa_nil)))
          (C8.pss_cut (ps_expr (pe_bm PySem.F.plainAttrs_list PySem.F.slot_list_append PySem.F.type_list_append mt_append (pv 3) (pa_cons (pe_lamV TB rfl (List.mem_singleton.mpr rfl) (fun p hp _ => by rw [List.mem_singleton.mp hp]) (lamS_all 8) rfl) pa_nil)))
          (C8.pss_cut (ps_expr (pe_bm PySem.F.plainAttrs_list PySem.F.slot_list_append PySem.F.type_list_append mt_append (pv 3) (pa_cons (pe_lamV TB rfl (List.mem_singleton.mpr rfl) (fun p hp _ => by rw [List.mem_singleton.mp hp]) (lamS_all 9) rfl) pa_nil)))
          (pss_one (ps_if (pt_cmpR (op_neD hu64) (pe_lcI (own := [("work", 7)]) (g := gName 7) (te := tCloCall (xLaw P w K mg base fa cc s H) 7 (fun j : Fin 10 => lamPr j) (fun j => lamBo j) (fun j => lamSc j) (tWork K C) (TRef C "picture")) rfl nd (pi_list (pv 3)) (blkOk_by (N := nLaw) (sc := defScope sLaw) (by decide +kernel)) (fun _ _ _ _ _ => pg_name (i := 7) nd rfl (Or.inl rfl)) (fun pins σ s1 H1 L cl fp I1 hfp => pe_clocall (k := 6) I1 hfp rfl mR kR lkR hcR bR scRef rfl (.inl rfl) hG hr8 lamS_all lamBind_all (lamBody_all Wx) (pv 7))) (pe_op op_rep (pe_lst (pa_cons pe_str pa_nil)) pe_int) (nomark _)) (pss_one (ps_ret pe_bl)) pss_nil))))))))))))))))))
      (pss_one (ps_ret (pe_and (pe_call GI hrI (by rfl) mI kI bI .nil pass0 (pa_cons (pe_op (r := rRepA K) op_repA (pe_tup (pa_cons (pe_op op_mul_str pe_str pe_int) pa_nil)) pe_int) pa_nil)) (pe_and (pe_call GI hrI (by rfl) mI kI bI .nil pass0 (pa_cons (pe_tup (pa_cons pe_str pa_nil)) pa_nil)) (pe_one (pe_not (pe_call GI hrI (by rfl) mI kI bI .nil pass0 (pa_cons (pe_op (r := rRepA K) op_repA (pe_tup (pa_cons (pe_op op_mul_str pe_str pe_int) pa_nil)) pe_int) pa_nil)))))))))), ?_⟩
  -- the reading
  have hTb : Tabs [(PP, lamQ (xLaw P w K mg base fa cc s H))] H := fun p hp => by
    rw [List.mem_singleton.mp hp]
    exact TabS.nil hT
  refine ⟨.ref a, rfl, a, ns, rfl, hS, hl, fun d g c H1 sm1 _ _ D1 => ?_⟩
  have T1 := hTb.ext sm1
  refine ⟨6, rfl, by decide, by decide, for_range (lo := 0) (n := 6) (fun _ σ H2 => ∃ y2 y3 y4 y5 y6, σ = [some (.ref a), some (.ref d), y2, y3, y4, y5, y6, none] ∧ Dr H2 d g c ∧ Tabs [(PP, lamQ (xLaw P w K mg base fa cc s H))] H2) ⟨none, none, none, none, none, rfl, D1, T1⟩ ?_ ?_⟩
  · rintro i σ H2 hi ⟨y2, y3, y4, y5, y6, rfl, D2, T2⟩
    refine ⟨fun σ' H' => ∃ (pa : Addr) (high wide : Nat) (rs : List (List Nat)), σ' = [some (.ref a), some (.ref d), some (.int (0 + i)), y3, y4, some (.ref pa), y6, none] ∧ PicR high wide rs ∧ H' pa = some (.tup (rs.map rv)) ∧ Dr H' d g c ∧ Tabs [(PP, lamQ (xLaw P w K mg base fa cc s H))] H', ?_, ?_⟩
    · exact ⟨.ref d, rfl, d, g, c, rfl, D2, fun high wide pa rs H3 pr _ hpa D3 dn3 => ⟨pa, high, wide, rs, rfl, pr, hpa, D3, Dn.tabs dn3 D2 T2⟩⟩
    rintro _ H3 ⟨pa, high, wide, rs, rfl, pr, hpa3, D3, T3⟩
    refine ⟨fun σ' H' => ∃ odd, σ' = [some (.ref a), some (.ref d), some (.int (0 + i)), y3, some odd, some (.ref pa), y6, none] ∧ H' pa = some (.tup (rs.map rv)) ∧ Bag K [(PP, lamQ (xLaw P w K mg base fa cc s H))] H' d g c odd (.ref pa), ?_, ?_⟩
    · refine ⟨.ref d, rfl, .ref pa, rfl, d, g, c, pa, high, wide, rs, rfl, D3, pr, hpa3, fun x H4 ax D4 dn4 => ?_⟩
      have hp := dn4.tup D3 hpa3
      exact ⟨x, rfl, hp, D4, Dn.tabs dn4 D3 T3, ax, askPic pr hp⟩
    rintro _ H4 ⟨odd, rfl, hpa4, B4⟩
    generalize (V.int (0 + i)) = tv
    refine ⟨fun σ' H' => σ' = [some (.ref a), some (.ref d), some tv, y3, some odd, some (.ref pa), y6, none] ∧ H' pa = some (.tup (rs.map rv)) ∧ Bag K [(PP, lamQ (xLaw P w K mg base fa cc s H))] H' d g c odd (.ref pa), ?_, ?_⟩
    · refine ⟨.ref pa, rfl, .ref pa, true, rfl, B4.ap, fun H5 sm5 => ⟨odd, rfl, odd, false, rfl, (B4.same sm5).ao, fun H6 sm6 => ⟨by show 2 ≤ sizeLine; decide, fun p hp => ⟨p, .list [.bool true, .bool false], rfl, .lst (SqL.of upd_same) (.cons (.bl true) (.cons (.bl false) .nil)), rfl, rfl, by decide, by decide +kernel, by show 2 ≤ sizeLine; decide, fun p2 hp2 => ⟨p2, .list [.bool true, .bool false], rfl, .lst (SqL.of upd_same) (.cons (.bl true) (.cons (.bl false) .nil)), rfl, rfl, by decide, by decide +kernel, rfl, _, rfl, iteE ?_ ?_⟩⟩⟩⟩⟩
      · rw [decide_eq_true rfl]
        rfl
      · have sA := ((sm5.trans sm6).trans (same_upd (o := .lst [V.bl true, V.bl false]) hp)).trans (same_upd (o := .lst [V.bl true, V.bl false]) hp2)
        exact ⟨rfl, sA _ _ hpa4, B4.same sA⟩
    rintro _ H5 ⟨rfl, hpa5, B5⟩
    obtain ⟨r0, rr, rfl⟩ : ∃ r0 rr, rs = r0 :: rr := by
      cases rs with
      | nil =>
        have := pr.len
        have := pr.h0
        simp at *
        omega
      | cons r0 rr => exact ⟨r0, rr, rfl⟩
    refine ⟨fun σ' H' => σ' = [some (.ref a), some (.ref d), some tv, y3, some odd, some (.ref pa), y6, none] ∧ Bag K [(PP, lamQ (xLaw P w K mg base fa cc s H))] H' d g c odd (.ref pa), ?_, ?_⟩
    · refine ⟨.ref pa, rfl, .ref pa, rfl, .inr ⟨pa, _, rfl, SqT.of hpa5, kn_rows pr, picOk_pic pr, fun p H6 sm6 hp0 hp => ?_⟩⟩
      refine ⟨.ref pa, rfl, pa, _, rfl, .inr (SqT.of (sm6 _ _ hpa5)), .ref pa, rfl, pa, _, 0, rv r0, rfl, rfl, SqT.of (sm6 _ _ hpa5), atI_nat (j := 0) rfl, S r0, rfl, ?_, ?_, fun p2 hp2 => ?_⟩
      · have e1 := (pr.row r0 List.mem_cons_self).len
        have e2 := pr.w1
        show r0.length ≤ sizeLine
        exact Nat.le_of_lt (small1000 (by omega))
      · show 2 ≤ sizeLine
        decide
      · have s2 := same_upd (o := .tup [V.int ((((r0 :: rr).map rv).length : Nat) : Int), V.int ((S r0).length : Int)]) hp2
        refine ⟨.tuple [.int (((r0 :: rr).map rv).length : Int), .int (lenV (((r0 :: rr).map rv).headD .non))], .tuple [.int (((r0 :: rr).map rv).length : Int), .int ((S r0).length : Int)], .tup (SqT.of (s2 _ _ hp)) (.cons (.int _) (.cons (.int _) .nil)), .tup (SqT.of upd_same) (.cons (.int _) (.cons (.int _) .nil)), rfl, rfl, _, rfl, iteE ?_ ⟨rfl, B5.same (sm6.trans s2)⟩⟩
        have e3 : lenV (((r0 :: rr).map rv).headD .non) = ((S r0).length : Int) := rfl
        rw [e3]
        simp [PyData.eqv, PyData.eqvAll]
    rintro _ H6 ⟨rfl, B6⟩
    refine ⟨fun σ' H' => ∃ sp, σ' = [some (.ref a), some (.ref d), some tv, y3, some odd, some (.ref pa), some sp, none] ∧ Bag K [(PP, lamQ (xLaw P w K mg base fa cc s H))] H' d g c odd (.ref pa), ?_, ?_⟩
    · refine ⟨.ref d, rfl, 1, rfl, by show 1 ≤ sizeLine; decide, fun p1 hp1 p2 hp2 => ⟨by show 6 ≤ sizeLine; decide, fun p3 hp3 => ?_⟩⟩
      have sA := ((same_upd (o := .lst [V.int 0]) hp1).trans (same_upd (o := .dK []) hp2)).trans (same_upd (o := .lst [V.non, V.int (-1), V.int 0, V.str "x", V.ref p1, V.ref p2]) hp3)
      have B7 := B6.same sA
      refine ⟨d, g, c, p3, _, rfl, B7.dr, upd_same, ?_, by show 0 < 6; decide, by show 6 ≤ 1000; decide, fun n x H8 _ D8 dn8 => ⟨x, rfl, B7.dn dn8 D8⟩⟩
      exact (((B6.same ((same_upd (o := .lst [V.int 0]) hp1).trans (same_upd (o := .dK []) hp2))).dr).newc hp3).2.1
    rintro _ H7 ⟨sp, rfl, B7⟩
    refine ⟨fun σ' H' => ∃ l L, σ' = [some (.ref a), some (.ref d), some tv, some (.ref l), some odd, some (.ref pa), some sp, none] ∧ L.length = 1 ∧ Sta K [(PP, lamQ (xLaw P w K mg base fa cc s H))] (lamQ (xLaw P w K mg base fa cc s H)) (xLaw P w K mg base fa cc s H).env.cells H' d g c odd (.ref pa) l L, ?_, ?_⟩
    · exact ⟨B7.tb, fun f k Ha ext tabs hc hf1 _ apart => ⟨by show 1 ≤ sizeLine; decide, fun l hl => ⟨l, _, rfl, rfl, sta_one (j := 0) B7 ext tabs hc hf1 apart hl⟩⟩⟩
    rintro _ H8 ⟨l, L0, rfl, e0', S0⟩
    refine pushM 1 rfl rfl rfl (by omega) S0 fun G1 L1 e1 S1 => ?_
    refine pushM 2 rfl rfl rfl (by omega) S1 fun G2 L2 e2 S2 => ?_
    refine pushM 3 rfl rfl rfl (by omega) S2 fun G3 L3 e3 S3 => ?_
    refine pushM 4 rfl rfl rfl (by omega) S3 fun G4 L4 e4 S4 => ?_
    refine pushM 5 rfl rfl rfl (by omega) S4 fun G5 L5 e5 S5 => ?_
    refine pushM 6 rfl rfl rfl (by omega) S5 fun G6 L6 e6 S6 => ?_
    refine pushM 7 rfl rfl rfl (by omega) S6 fun G7 L7 e7 S7 => ?_
    refine pushM 8 rfl rfl rfl (by omega) S7 fun G8 L8 e8 S8 => ?_
    refine pushM 9 rfl rfl rfl (by omega) S8 fun G9 L9 e9 S9 => ?_
    have len10 : L9.length = 10 := by omega
    have S := S9
    clear S0 S1 S2 S3 S4 S5 S6 S7 S8 S9
    refine ⟨.ref l, rfl, l, rfl, ⟨_, SqL.of S.ls⟩, fun Dd hDd => lc_list (K := K) (a := l) (xs := refs L9) (fun i H3 => Bag K [(PP, lamQ (xLaw P w K mg base fa cc s H))] H3 d g c odd (.ref pa) ∧ Wk (lamQ (xLaw P w K mg base fa cc s H)) (xLaw P w K mg base fa cc s H).env.cells H3 (L9.drop i) ∧ H3 l = some (.lst (refs L9)) ∧ H3 Dd = some (.lst (List.replicate i (.str "picture")))) ?_ (fun i H3 _ h => SqL.of h.2.2.1) ?_ ?_⟩
    · have sD := same_upd (o := .lst []) hDd
      exact ⟨S.bag.same sD, S.wk.same sD, sD _ _ S.ls, upd_same⟩
    · rintro i x H3 hi ⟨B, W, h3l, h3D⟩
      obtain ⟨z, hz, rfl⟩ : ∃ z, L9[i]? = some z ∧ x = V.ref z.1 := by
        unfold refs at hi
        rw [List.getElem?_map] at hi
        cases e : L9[i]? with
        | none =>
          rw [e] at hi
          cases hi
        | some z =>
          rw [e] at hi
          exact ⟨z, rfl, (Option.some.inj hi).symm⟩
      obtain ⟨clo, code, nf⟩ := W.all z (by
        obtain ⟨h1, h2⟩ := List.getElem?_eq_some_iff.mp hz
        rw [List.drop_eq_getElem_cons h1, h2]
        exact List.mem_cons_self)
      have Bd := B.del clo
      refine ⟨rfl, z.2.2, z.1, z.2.1, rfl, clo, code, nf, fun R => work_refused z.2.2 rfl rfl rfl Bd.ao Bd.ap fun Ha sa => ⟨rfl, rfl, fun Hb sb => ?_⟩⟩
      obtain ⟨q1, q2, q3, q4, q5⟩ := next_work (S.bag.dr.newc hDd) (ne_of_none S.ls hDd).symm B W h3l h3D hz (sa.trans sb)
      refine ⟨_, q1, ?_, q2, q3, q4, q5⟩
      rw [List.length_replicate]
      have := (List.getElem?_eq_some_iff.mp hz).1
      exact small1000 (by omega)
    · rintro H3 ⟨B, W, h3l, h3D⟩
      rw [refs_len, len10] at h3D
      refine ⟨by show 1 ≤ sizeLine; decide, fun p hp => ⟨p, 10, _, rfl, rfl, upd_same, by decide, by decide, by show 10 ≤ sizeLine; decide, fun p2 hp2 => ?_⟩⟩
      have s1 := same_upd (o := .lst [V.str "picture"]) hp
      have s2 := same_upd (o := .lst (List.replicate (10 : Int).toNat [V.str "picture"]).flatten) hp2
      have sA := s1.trans s2
      refine ⟨.list (List.replicate 10 (.str "picture")), .list (List.replicate 10 (.str "picture")), .lst (SqL.of (sA _ _ h3D)) (dpStrs 10), .lst (SqL.of upd_same) (dpStrs 10), by decide +kernel, by decide +kernel, _, rfl, iteE (by decide +kernel) ?_⟩
      exact ⟨_, _, _, _, _, rfl, (B.same sA).dr, (B.same sA).tb⟩
  · rintro σ H2 ⟨y2, y3, y4, y5, y6, rfl, D2, T2⟩
    have row120 : RowR 120 (List.replicate 120 35) := row_rep 35 120 (.inl rfl)
    have p60 : PicR 60 120 (List.replicate 60 (List.replicate 120 35)) := ⟨List.length_replicate, fun x hx => by rw [(List.mem_replicate.mp hx).2]; exact row120, by decide, by decide, by decide, by decide⟩
    have p1 : PicR 1 1 [[46]] := ⟨rfl, fun x hx => by rw [List.mem_singleton.mp hx]; exact row_rep 46 1 (.inr rfl), by decide, by decide, by decide, by decide⟩
    have mo : MulOk ("#" : Str) (120 : Int) := by
      rw [s_hash]
      exact mul_ok 35 120 (by decide) (by decide)
    have me : V.str (Txt.mul ("#" : Str) (120 : Int)) = rv (List.replicate 120 35) := by
      rw [s_hash]
      exact congrArg V.str (mul_sign 35 120 (by decide))
    refine ⟨_, _, rfl, rfl, mo, by show 1 ≤ sizeLine; decide, fun p hp => ?_⟩
    dsimp only [tC]
    refine rep_anyI (i := 60) (k := 60) rfl upd_same (by decide) (by decide) fun z Ha sa ha => ?_
    rw [me] at ha
    refine ⟨.ref z, true, rfl, askPic p60 (ha.trans (by rw [List.map_replicate])), fun Hb sb => ⟨true, rfl, iteT ?_⟩⟩
    refine ⟨by show 1 ≤ sizeLine; decide, fun p2 hp2 => ⟨.ref p2, true, rfl, askPic (rs := [[46]]) p1 (upd_same.trans (by rw [s_dot]; rfl)), fun Hc sc => ⟨true, rfl, iteT ?_⟩⟩⟩
    refine ⟨_, _, rfl, rfl, mo, by show 1 ≤ sizeLine; decide, fun p3 hp3 => ?_⟩
    dsimp only [tC]
    refine rep_anyI (i := 61) (k := 61) rfl upd_same (by decide) (by decide) fun z3 Hd sd hd => ?_
    rw [me] at hd
    refine ⟨.ref z3, false, rfl, .inr ⟨z3, _, rfl, SqT.of hd, fun h => ?_, ?_⟩, fun He se => ⟨false, rfl, rfl⟩⟩
    · rw [List.length_replicate] at h
      omega
    · unfold picOk
      rw [List.length_replicate]
      rfl
end
end Dt
namespace Dt
open PySem PySem.Spec PyProof.Rows L2 L2X LamX
abbrev BndT (nm : Str) (st : Stmt) (ps : List Str) : Prop := ∀ (kV doc pm : Value) (an : Option Addr) (cdv ct : Value) (us : List Value), us.length = ps.length → bindArgs (PySem.W.fnOf nm nm (defArgs st) (defBody st) (defScope st) .none kV doc pm an cdv ct) ⟨us, []⟩ = pure (ps.zip us)
theorem df_mk {K : PySem.W.Frag} {h : Heap} {mg : Str → Option Value} {nm : Str} {st : Stmt} {ps : List Str} {f : Addr} {oc : Value} {od an : Option Addr} {osl : Array (Option Value)} {kV doc pm cdv ct : Value} (X : K.In h) (G : h.Ns mainGlobals mg)
    (a : PySem.W.nsIn K mainGlobals nm = some (some (.ref f))) (l : K.lookup f = some ⟨oc, od, .func (PySem.W.fnOf nm nm (defArgs st) (defBody st) (defScope st) .none kV doc pm an cdv ct), osl⟩) (c : PySem.W.codeIn K cdv nm = true) (k : PySem.W.keepIn K (.ref f) = true) (hb : BndT nm st ps) : Df K mg nm st ps :=
  have F := fun_mk (st := st) l c k
  ⟨f, _, F, PySem.W.mg_of X G a, F.binds (ps := ps) hb⟩
theorem bnd0 : BndT "_law_next" sNext ["draw", "below"] := fun _ _ _ _ _ _ us hl => match us, hl with | [_, _], _ => rfl
theorem bnd1 : BndT "_law_begun" sBegun ["script"] := fun _ _ _ _ _ _ us hl => match us, hl with | [_], _ => rfl
theorem bnd2 : BndT "_law_picture" sPic ["draw", "high", "wide"] := fun _ _ _ _ _ _ us hl => match us, hl with | [_, _, _], _ => rfl
theorem bnd3 : BndT "_law_sized" sSized ["draw"] := fun _ _ _ _ _ _ us hl => match us, hl with | [_], _ => rfl
theorem bnd4 : BndT "_law_pick" sPick ["draw", "some"] := fun _ _ _ _ _ _ us hl => match us, hl with | [_, _], _ => rfl
theorem bnd5 : BndT "is_text" sIsText ["thing"] := fun _ _ _ _ _ _ us hl => match us, hl with | [_], _ => rfl
theorem bnd6 : BndT "_is_row" sIsRow ["thing"] := fun _ _ _ _ _ _ us hl => match us, hl with | [_], _ => rfl
theorem bnd7 : BndT "is_picture" sIsPic ["thing"] := fun _ _ _ _ _ _ us hl => match us, hl with | [_], _ => rfl
theorem bnd8 : BndT "want_picture" sWant ["thing"] := fun _ _ _ _ _ _ us hl => match us, hl with | [_], _ => rfl
theorem bnd9 : BndT "size" sSize ["picture"] := fun _ _ _ _ _ _ us hl => match us, hl with | [_], _ => rfl
theorem bnd10 : BndT "dots" sDots ["picture"] := fun _ _ _ _ _ _ us hl => match us, hl with | [_], _ => rfl
theorem bnd11 : BndT "cut_out" sCut ["picture", "top", "left", "high", "wide"] := fun _ _ _ _ _ _ us hl => match us, hl with | [_, _, _, _, _], _ => rfl
theorem bnd12 : BndT "turned" sTurned ["picture", "times"] := fun _ _ _ _ _ _ us hl => match us, hl with | [_, _], _ => rfl
theorem bnd13 : BndT "shifted" sShifted ["picture", "steps"] := fun _ _ _ _ _ _ us hl => match us, hl with | [_, _], _ => rfl
theorem bnd14 : BndT "pieces" sPieces ["picture"] := fun _ _ _ _ _ _ us hl => match us, hl with | [_], _ => rfl
theorem bnd15 : BndT "cleaned" sCleaned ["picture", "most"] := fun _ _ _ _ _ _ us hl => match us, hl with | [_, _], _ => rfl
theorem bnd16 : BndT "unlike" sUnlike ["one", "other"] := fun _ _ _ _ _ _ us hl => match us, hl with | [_, _], _ => rfl
theorem bnd17 : BndT "with_turned" sWithT ["picture", "places"] := fun _ _ _ _ _ _ us hl => match us, hl with | [_, _], _ => rfl
theorem bnd18 : BndT "_law_odd_picture" sOdd ["draw", "picture"] := fun _ _ _ _ _ _ us hl => match us, hl with | [_, _], _ => rfl
theorem bnd19 : BndT "_law_refused" sRef ["work"] := fun _ _ _ _ _ _ us hl => match us, hl with | [_], _ => rfl
theorem bnd20 : BndT "_law_word" sWord ["e"] := fun _ _ _ _ _ _ us hl => match us, hl with | [_], _ => rfl
theorem bnd21 : BndT "law" sLaw ["script"] := fun _ _ _ _ _ _ us hl => match us, hl with | [_], _ => rfl
/-- all defs that the law reaches -/
structure AllD (K : PySem.W.Frag) (mg : Str → Option Value) : Prop where
  d0 : Df K mg "_law_next" sNext ["draw", "below"]
  d1 : Df K mg "_law_begun" sBegun ["script"]
  d2 : Df K mg "_law_picture" sPic ["draw", "high", "wide"]
  d3 : Df K mg "_law_sized" sSized ["draw"]
  d4 : Df K mg "_law_pick" sPick ["draw", "some"]
  d5 : Df K mg "is_text" sIsText ["thing"]
  d6 : Df K mg "_is_row" sIsRow ["thing"]
  d7 : Df K mg "is_picture" sIsPic ["thing"]
  d8 : Df K mg "want_picture" sWant ["thing"]
  d9 : Df K mg "size" sSize ["picture"]
  d10 : Df K mg "dots" sDots ["picture"]
  d11 : Df K mg "cut_out" sCut ["picture", "top", "left", "high", "wide"]
  d12 : Df K mg "turned" sTurned ["picture", "times"]
  d13 : Df K mg "shifted" sShifted ["picture", "steps"]
  d14 : Df K mg "pieces" sPieces ["picture"]
  d15 : Df K mg "cleaned" sCleaned ["picture", "most"]
  d16 : Df K mg "unlike" sUnlike ["one", "other"]
  d17 : Df K mg "with_turned" sWithT ["picture", "places"]
  d18 : Df K mg "_law_odd_picture" sOdd ["draw", "picture"]
  d19 : Df K mg "_law_refused" sRef ["work"]
  d20 : Df K mg "_law_word" sWord ["e"]
  d21 : Df K mg "law" sLaw ["script"]
/-- .. and all else -/
structure AllN (K : PySem.W.Frag) (mg : Str → Option Value) (C : Addr) : Prop where
  z0 : mg "len" = none
  z1 : mg "range" = none
  z2 : mg "tuple" = none
  z3 : mg "list" = none
  z4 : mg "int" = none
  z5 : mg "type" = none
  z6 : mg "str" = none
  z7 : mg "all" = none
  z8 : mg "isinstance" = none
  z9 : mg "ValueError" = none
  z10 : mg "repr" = none
  z11 : mg "set" = none
  mr : ∃ t, mg "MOST_ROWS" = some (.int 60 t)
  mc : ∃ t, mg "MOST_COLUMNS" = some (.int 120 t)
  n : Tn K mg C
  w : Tw K mg C "picture"
  CD : ∃ a, mg "DotError" = some (.ref a) ∧ PySem.W.exmOne K (.ref C) (.ref a) = some true
section
variable {P : Program} {w : World} {K : PySem.W.Frag} {mg : Str → Option Value} {base : Heap} {C : Addr}
theorem Pm.of {CX : CXT} {k : Nat} {nm : Str} {st : Stmt} {ps : List Str} {sp : Sp} (d : Df K mg nm st ps) (h : ∀ f fd, Fun K nm nm st f fd → FnOk P w K mg base CX k f fd ps sp) : Pm P w K mg base CX k nm ps sp := by
  obtain ⟨f, fd, F, m, b⟩ := d.ex
  exact ⟨f, fd, h f fd F, m, F.kp, b⟩
theorem facts (D : AllD K mg) (N : AllN K mg C) : LawFs P w K mg base C := by
  have X : Tx mg := ⟨N.z0, N.z1, N.z2, N.z3, N.z4⟩
  have T : Tp mg := ⟨N.z5, N.z6, N.z7, N.mr, N.mc⟩
  have nxt : ∀ k, Pm P w K mg base CX0 (k + 1) "_law_next" ["draw", "below"] spNext := fun k => .of D.d0 fun f fd F => ok_next F X.len
  have pic : ∀ k, Pm P w K mg base CX0 (k + 2) "_law_picture" ["draw", "high", "wide"] spPic := fun k => .of D.d2 fun f fd F => by
    obtain ⟨_, _, G, m, kp, b⟩ := (nxt k).ex
    exact ok_pic F X G m kp b
  have isT : ∀ k, Pm P w K mg base CX0 (k + 1) "is_text" ["thing"] (spIsText K) := fun k => .of D.d5 fun f fd F => ok_isText F T
  have isR : ∀ k, Pm P w K mg base CX0 (k + 2) "_is_row" ["thing"] (spIsRow K) := fun k => .of D.d6 fun f fd F => by
    obtain ⟨_, _, G, m, kp, b⟩ := (isT k).ex
    exact ok_isRow F T X G m kp b
  have isP : ∀ k, Pm P w K mg base CX0 (k + 3) "is_picture" ["thing"] (spIsPic K) := fun k => .of D.d7 fun f fd F => by
    obtain ⟨_, _, G, m, kp, b⟩ := (isR k).ex
    exact ok_isPic (k := k + 1) F T X G m kp b
  have wnt : ∀ k, GW P w K mg base C (k + 4) := fun k => by
    obtain ⟨fW, fdW, FW, mW, bW⟩ := D.d8.ex
    obtain ⟨_, _, G, m, kp, b⟩ := (isP k).ex
    exact ⟨fW, fdW, ok_want (k := k + 2) FW N.n G m kp b, mW, FW.kp, bW⟩
  have siz : ∀ k, GS P w K mg base C (k + 5) := fun k => by
    obtain ⟨f, fd, F, m, b⟩ := D.d9.ex
    exact ⟨f, fd, ok_size (k := k + 3) F X (wnt k), m, F.kp, b⟩
  have dts : ∀ k, Pm P w K mg base (L2.CX P w) (k + 5) "dots" ["picture"] (spRef K C 1) := fun k => .of D.d10 fun f fd F => ok_dots (k := k + 3) F (wnt k)
  have Wx : Works P w K mg base C :=
    { size := (siz 1).ex.elim fun f h => h.elim fun fd h => ⟨f, fd, h⟩
      dots := dts 1
      pieces := .of D.d14 fun f fd F => by
        obtain ⟨_, _, G, m, kp, b⟩ := (dts 0).ex
        exact ok_pieces (k := 4) F N.z11 G m kp b
      cut := .of D.d11 fun f fd F => ok_cut (k := 4) F (siz 0)
      turned := .of D.d12 fun f fd F => ok_turned (k := 4) F (siz 0)
      shifted := .of D.d13 fun f fd F => ok_shifted (k := 4) F (siz 0)
      cleaned := .of D.d15 fun f fd F => ok_cleaned (k := 4) F (wnt 1)
      unlike := .of D.d16 fun f fd F => ok_unlike (k := 4) F (wnt 1)
      withT := .of D.d17 fun f fd F => ok_withT (k := 4) F (siz 0) }
  exact
    { tx := X
      rp := N.z10
      B := .of D.d1 fun f fd F => ok_begun (k := 7) F X
      Z := .of D.d3 fun f fd F => by
        obtain ⟨_, _, G, m, kp, b⟩ := (nxt 5).ex
        obtain ⟨_, _, G2, m2, kp2, b2⟩ := (pic 5).ex
        exact ok_sized (k := 5) F X G m kp b G2 m2 kp2 b2
      O := .of D.d18 fun f fd F => by
        obtain ⟨_, _, G, m, kp, b⟩ := (nxt 6).ex
        exact ok_odd (k := 6) F X G m kp b
      I := isP 5
      Q := .of D.d4 fun f fd F => by
        obtain ⟨_, _, G, m, kp, b⟩ := (nxt 6).ex
        exact ok_pick (k := 6) F X G m kp b
      Wx := Wx
      wd := .of D.d20 fun f fd F => ok_word (k := 6) F N.w
      CD := N.CD
      R := D.d19 }
end
/-- what the end asks of the law -/
def LawEnd (l : PySem.W.OpenLaw) (w : World) (K : PySem.W.Frag) (mg : Str → Option Value) : Prop := ∃ (C : Addr) (cc PP : Addr), AllD K mg ∧ AllN K mg C ∧ PySem.W.tabIn K "law" = some (cc, PP) ∧ K.lookup PP = none
theorem walk_ofG {l : PySem.W.OpenLaw} {q : Program} {loose : List Str} {XP : (Str → Option Value) → Heap → Prop} {YP : World → Heap → Prop} {d e : DefRec} {K : Params → PySem.W.Frag}
    (hn : l.most = some 63) (hdf : d.params.defaults = []) (hrec : (PyProof.Rows.recsOf q).find? (fun e => e.name == ("law" : Str)) = some e) (hY : ∀ (w : World) (h : Heap), YP w h → (K w.params).In h) (hname : d.name = "law")
    (F : ∀ (w : World) (mg : Str → Option Value) (h : Heap), (K w.params).In h → h.Ns mainGlobals mg → LawEnd l w (K w.params) mg) :
    PySem.W.WalkO q loose XP YP l.row.toRowW d [] (fun f vs => PySem.call f vs) := by
  refine Att.attach_callB hn hdf fun w s₀ s₁ mg mb fa o pm cd doc a vs ns G Y ho hd hcd hmg hobj hints hlen hbits hg => ?_
  have KX := hY w _ Y
  obtain ⟨C, cc, PP, D, N, ht, nP⟩ := F w mg _ KX G.T.g
  obtain ⟨hC, hP⟩ := PySem.W.tab_of G.T KX hrec ht
  rw [hname] at hmg
  obtain ⟨fL, fdL, FL, mL, bL⟩ := D.d21.ex
  rw [hmg] at mL
  cases mL
  obtain ⟨oc, od, kV, dc, pm', an, cdv, ct, osl, rfl, lk, hc⟩ := FL.ex
  have ec := PySem.W.law_code KX G.T.g ht hmg (KX _ _ lk) rfl
  have ec' : cdv = .ref cc := ec
  subst ec'
  refine law_callG (cs := [(cc, PP)]) KX G.T.g G.T.b G.T.builtins G.T.nolimit hg (fun p hp => by rw [List.mem_singleton.mp hp]; exact hP) (fun p hp => by rw [List.mem_singleton.mp hp]; exact nP) (fun p hp => by rw [List.mem_singleton.mp hp]; exact hC) G.T.bmain hobj hints (Nat.le_trans hlen (by decide)) ?_
  intro base H hKb hNs hTB hHT hS e0
  exact law_run lk hc (fun _ _ => .of_eq rfl) (facts D N) (hTB _ (List.mem_singleton.mpr rfl)) ⟨rfl, by decide, by decide⟩ e0 (hHT _ (List.mem_singleton.mpr rfl)) hS hlen
theorem gli_mk {K : PySem.W.Frag} {h : Heap} {mg : Str → Option Value} {nm : Str} {i : Int} {t : Tok} (X : K.In h) (G : h.Ns mainGlobals mg) (a : PySem.W.nsIn K mainGlobals nm = some (some (.int i t))) : ∃ t, mg nm = some (.int i t) := ⟨t, PySem.W.mg_of X G a⟩
theorem glk_mk {K : PySem.W.Frag} {h : Heap} {mg : Str → Option Value} {nm : Str} {C D : Addr} {b : Bool} (X : K.In h) (G : h.Ns mainGlobals mg) (a : PySem.W.nsIn K mainGlobals nm = some (some (.ref C))) (q : PySem.W.kitOne K (.ref D) (.ref C) = some b) : ∃ C, mg nm = some (.ref C) ∧ PySem.W.kitOne K (.ref D) (.ref C) = some b := ⟨C, PySem.W.mg_of X G a, q⟩
theorem glx_mk {K : PySem.W.Frag} {h : Heap} {mg : Str → Option Value} {nm : Str} {C D : Addr} (X : K.In h) (G : h.Ns mainGlobals mg) (a : PySem.W.nsIn K mainGlobals nm = some (some (.ref C))) (q : PySem.W.exmOne K (.ref D) (.ref C) = some true) : ∃ C, mg nm = some (.ref C) ∧ PySem.W.exmOne K (.ref D) (.ref C) = some true := ⟨C, PySem.W.mg_of X G a, q⟩
theorem kitc_ref {K : PySem.W.Frag} {C D : Addr} {b : Bool} (i : PySem.W.isClsIn K C = true) (y : PySem.W.typeIn K (.ref C) = some (.type "type")) (s : PySem.W.subIn K (.ref D) (.ref C) = some b) : PySem.W.kitCls K (.ref D) (.ref C) = some b := by
  have e2 : ((PySem.W.clsIn K C).isSome && PySem.W.typeIn K (.ref C) == some (.type "type")) = true := by
    have i' : (PySem.W.clsIn K C).isSome = true := i
    rw [i', y] <;> rfl
  show (if ((PySem.W.clsIn K C).isSome && PySem.W.typeIn K (.ref C) == some (.type "type")) = true then PySem.W.subIn K (.ref D) (.ref C) else none) = some b
  rw [if_pos e2]
  exact s
theorem kit_self {K : PySem.W.Frag} {C : Addr} : PySem.W.kitOne K (.ref C) (.ref C) = some true := if_pos (beq_self_eq_true _)
theorem kit_ne {K : PySem.W.Frag} {C D : Addr} {b : Bool} (n : D ≠ C) (h : PySem.W.kitCls K (.ref D) (.ref C) = some b) : PySem.W.kitOne K (.ref D) (.ref C) = some b := by
  unfold PySem.W.kitOne
  rw [if_neg (fun z => n (Value.ref.inj (beq_iff_eq.mp z)))]
  exact h
theorem glo_mk {K : PySem.W.Frag} {h : Heap} {mg : Str → Option Value} {nm : Str} {C D : Addr} {b : Bool} (X : K.In h) (G : h.Ns mainGlobals mg) (a : PySem.W.nsIn K mainGlobals nm = some (some (.ref C))) (i : PySem.W.isClsIn K C = true) (y : PySem.W.typeIn K (.ref C) = some (.type "type")) (s : PySem.W.subIn K (.ref D) (.ref C) = some b) (n : D ≠ C) : ∃ C, mg nm = some (.ref C) ∧ PySem.W.kitOne K (.ref D) (.ref C) = some b :=
  ⟨C, PySem.W.mg_of X G a, kit_ne n (kitc_ref i y s)⟩
theorem gls_mk {K : PySem.W.Frag} {h : Heap} {mg : Str → Option Value} {nm : Str} {C : Addr} (X : K.In h) (G : h.Ns mainGlobals mg) (a : PySem.W.nsIn K mainGlobals nm = some (some (.ref C))) : ∃ D, mg nm = some (.ref D) ∧ PySem.W.kitOne K (.ref C) (.ref D) = some true := ⟨C, PySem.W.mg_of X G a, kit_self⟩
theorem kit_ty {K : PySem.W.Frag} {D : Addr} {T : String} {b : Bool} (m : PySem.W.kitMeta T = true) (s : PySem.W.subIn K (.ref D) (.type T) = some b) : PySem.W.kitOne K (.ref D) (.type T) = some b := by
  unfold PySem.W.kitOne
  have n : ¬ ((Value.ref D == Value.type T) = true) := fun z => by
    have e := beq_iff_eq.mp z
    cases e
  rw [if_neg n]
  show (if PySem.W.kitMeta T = true then PySem.W.subIn K (.ref D) (.type T) else none) = some b
  rw [if_pos m]
  exact s
theorem glx_of {K : PySem.W.Frag} {h : Heap} {mg : Str → Option Value} {nm : Str} {C D : Addr} (X : K.In h) (G : h.Ns mainGlobals mg) (a : PySem.W.nsIn K mainGlobals nm = some (some (.ref C))) (b : PySem.W.subIn K (.ref C) (.type "BaseException") = some true) (hd : PySem.W.hasDictIn K C = true) (y : PySem.W.typeIn K (.ref C) = some (.type "type")) (s : PySem.W.subIn K (.ref D) (.ref C) = some true) :
    ∃ C, mg nm = some (.ref C) ∧ PySem.W.exmOne K (.ref D) (.ref C) = some true := ⟨C, PySem.W.mg_of X G a, PySem.W.exm_ref b hd y s⟩
theorem tabm {K : PySem.W.Frag} {f cc PP : Addr} {oc oc2 : Value} {od od2 : Option Addr} {fd : FuncData} {sl sl2 : Array (Option Value)} {vs : Array Value} (a : PySem.W.nsIn K mainGlobals "law" = some (some (.ref f))) (l : K.lookup f = some ⟨oc, od, .func fd, sl⟩) (c : fd.code = .ref cc) (m : K.lookup cc = some ⟨oc2, od2, .fields vs, sl2⟩) (v : (vs[11]? : Option Value) = some (.ref PP)) :
    PySem.W.tabIn K "law" = some (cc, PP) := by
  unfold PySem.W.tabIn
  rw [a]
  simp only
  rw [l]
  simp only
  rw [c]
  simp only
  rw [m]
  simp only
  rw [v]
theorem end_mk {l : PySem.W.OpenLaw} {w : World} {K : PySem.W.Frag} {mg : Str → Option Value} {C cc PP : Addr} {P0 : Prop} (p0 : P0) (p1 : P0 → PySem.W.nsIn K mainGlobals "NoPicture" = some (some (.ref C))) (D : AllD K mg) (N : AllN K mg C) (t : PySem.W.tabIn K "law" = some (cc, PP)) (np : K.lookup PP = none) : LawEnd l w K mg := ⟨C, cc, PP, D, N, t, np⟩
end Dt
open PySem PySem.W PyProof.Rows
set_option maxRecDepth 100000 in
set_option maxHeartbeats 0 in
theorem PySem.Challenge.cw_dotread_k01_pictures_known_holds : PySem.Challenge.rw_dotread_k01_pictures_known.Holds := by
  w_on; o_law; k_head; (case hw => w_witness2)
  k_fill
  refine Dt.walk_ofG (l := PySem.Challenge.rw_dotread_k01_pictures_known) rfl rfl rfl (fun w h Y => PySem.W.km_in_of Y) (by kernel_rfl) ?F
  case F =>
    intro w mg h KX G
    refine' Dt.end_mk trivial (fun _ => ?nC) ⟨Dt.df_mk KX G ?a0 ?l0 ?c0 ?k0 Dt.bnd0, Dt.df_mk KX G ?a1 ?l1 ?c1 ?k1 Dt.bnd1, Dt.df_mk KX G ?a2 ?l2 ?c2 ?k2 Dt.bnd2, Dt.df_mk KX G ?a3 ?l3 ?c3 ?k3 Dt.bnd3, Dt.df_mk KX G ?a4 ?l4 ?c4 ?k4 Dt.bnd4, Dt.df_mk KX G ?a5 ?l5 ?c5 ?k5 Dt.bnd5, Dt.df_mk KX G ?a6 ?l6 ?c6 ?k6 Dt.bnd6, Dt.df_mk KX G ?a7 ?l7 ?c7 ?k7 Dt.bnd7, Dt.df_mk KX G ?a8 ?l8 ?c8 ?k8 Dt.bnd8, Dt.df_mk KX G ?a9 ?l9 ?c9 ?k9 Dt.bnd9, Dt.df_mk KX G ?a10 ?l10 ?c10 ?k10 Dt.bnd10, Dt.df_mk KX G ?a11 ?l11 ?c11 ?k11 Dt.bnd11, Dt.df_mk KX G ?a12 ?l12 ?c12 ?k12 Dt.bnd12, Dt.df_mk KX G ?a13 ?l13 ?c13 ?k13 Dt.bnd13, Dt.df_mk KX G ?a14 ?l14 ?c14 ?k14 Dt.bnd14, Dt.df_mk KX G ?a15 ?l15 ?c15 ?k15 Dt.bnd15, Dt.df_mk KX G ?a16 ?l16 ?c16 ?k16 Dt.bnd16, Dt.df_mk KX G ?a17 ?l17 ?c17 ?k17 Dt.bnd17, Dt.df_mk KX G ?a18 ?l18 ?c18 ?k18 Dt.bnd18, Dt.df_mk KX G ?a19 ?l19 ?c19 ?k19 Dt.bnd19, Dt.df_mk KX G ?a20 ?l20 ?c20 ?k20 Dt.bnd20, Dt.df_mk KX G ?a21 ?l21 ?c21 ?k21 Dt.bnd21⟩ ⟨mg_none_of KX G ?z0, mg_none_of KX G ?z1, mg_none_of KX G ?z2, mg_none_of KX G ?z3, mg_none_of KX G ?z4, mg_none_of KX G ?z5, mg_none_of KX G ?z6, mg_none_of KX G ?z7, mg_none_of KX G ?z8, mg_none_of KX G ?z9, mg_none_of KX G ?z10, mg_none_of KX G ?z11, Dt.gli_mk KX G ?mr, Dt.gli_mk KX G ?mc, ⟨mg_of KX G ?nC2, ?nx, ?nk, ?nb, ?nt⟩, ⟨mg_none_of KX G ?z8b, mg_none_of KX G ?z0b, mg_none_of KX G ?z9b, Dt.kit_ty (by decide +kernel) ?vk, ⟨?e1, ?e2, ?e3, ?e4, ?e5, ?e6, ?e7, ?e8⟩, true, false, false, false, false, false, false, false, false, false, false, false, Dt.gls_mk KX G ?p0, Dt.glo_mk KX G ?p1 ?i1 ?y1 ?s1 ?n1, Dt.glo_mk KX G ?p2 ?i2 ?y2 ?s2 ?n2, Dt.glo_mk KX G ?p3 ?i3 ?y3 ?s3 ?n3, Dt.glo_mk KX G ?p4 ?i4 ?y4 ?s4 ?n4, Dt.glo_mk KX G ?p5 ?i5 ?y5 ?s5 ?n5, Dt.glo_mk KX G ?p6 ?i6 ?y6 ?s6 ?n6, Dt.glo_mk KX G ?p7 ?i7 ?y7 ?s7 ?n7, Dt.glo_mk KX G ?p8 ?i8 ?y8 ?s8 ?n8, Dt.glo_mk KX G ?p9 ?i9 ?y9 ?s9 ?n9, Dt.glo_mk KX G ?p10 ?i10 ?y10 ?s10 ?n10, Dt.glo_mk KX G ?p11 ?i11 ?y11 ?s11 ?n11, by decide +kernel⟩, Dt.glx_of KX G ?dD ?db ?dd ?dy ?ds⟩ (Dt.tabm ?ta ?tl ?tc ?tm ?tv) ?np
    (case nC => k_is)
    (case nC2 => k_is)
    (case a0 => k_is)
    (case l0 => k_is)
    (case c0 => k_is)
    (case k0 => k_is)
    (case a1 => k_is)
    (case l1 => k_is)
    (case c1 => k_is)
    (case k1 => k_is)
    (case a2 => k_is)
    (case l2 => k_is)
    (case c2 => k_is)
    (case k2 => k_is)
    (case a3 => k_is)
    (case l3 => k_is)
    (case c3 => k_is)
    (case k3 => k_is)
    (case a4 => k_is)
    (case l4 => k_is)
    (case c4 => k_is)
    (case k4 => k_is)
    (case a5 => k_is)
    (case l5 => k_is)
    (case c5 => k_is)
    (case k5 => k_is)
    (case a6 => k_is)
    (case l6 => k_is)
    (case c6 => k_is)
    (case k6 => k_is)
    (case a7 => k_is)
    (case l7 => k_is)
    (case c7 => k_is)
    (case k7 => k_is)
    (case a8 => k_is)
    (case l8 => k_is)
    (case c8 => k_is)
    (case k8 => k_is)
    (case a9 => k_is)
    (case l9 => k_is)
    (case c9 => k_is)
    (case k9 => k_is)
    (case a10 => k_is)
    (case l10 => k_is)
    (case c10 => k_is)
    (case k10 => k_is)
    (case a11 => k_is)
    (case l11 => k_is)
    (case c11 => k_is)
    (case k11 => k_is)
    (case a12 => k_is)
    (case l12 => k_is)
    (case c12 => k_is)
    (case k12 => k_is)
    (case a13 => k_is)
    (case l13 => k_is)
    (case c13 => k_is)
    (case k13 => k_is)
    (case a14 => k_is)
    (case l14 => k_is)
    (case c14 => k_is)
    (case k14 => k_is)
    (case a15 => k_is)
    (case l15 => k_is)
    (case c15 => k_is)
    (case k15 => k_is)
    (case a16 => k_is)
    (case l16 => k_is)
    (case c16 => k_is)
    (case k16 => k_is)
    (case a17 => k_is)
    (case l17 => k_is)
    (case c17 => k_is)
    (case k17 => k_is)
    (case a18 => k_is)
    (case l18 => k_is)
    (case c18 => k_is)
    (case k18 => k_is)
    (case a19 => k_is)
    (case l19 => k_is)
    (case c19 => k_is)
    (case k19 => k_is)
    (case a20 => k_is)
    (case l20 => k_is)
    (case c20 => k_is)
    (case k20 => k_is)
    (case a21 => k_is)
    (case l21 => k_is)
    (case c21 => k_is)
    (case k21 => k_is)
    (case z0 => k_is)
    (case z1 => k_is)
    (case z2 => k_is)
    (case z3 => k_is)
    (case z4 => k_is)
    (case z5 => k_is)
    (case z6 => k_is)
    (case z7 => k_is)
    (case z8 => k_is)
    (case z9 => k_is)
    (case z10 => k_is)
    (case z11 => k_is)
    (case mr => k_is)
    (case mc => k_is)
    (case nx => first | kernel_rfl | decide +kernel | rfl)
    (case nk => k_is)
    (case nb => k_is)
    (case nt => k_is)
    (case z8b => k_is)
    (case z0b => k_is)
    (case z9b => k_is)
    (case vk => k_is)
    (case e1 => k_is)
    (case e2 => k_is)
    (case e3 => k_is)
    (case e4 => k_is)
    (case e5 => k_is)
    (case e6 => k_is)
    (case e7 => k_is)
    (case e8 => k_is)
    (case p0 => k_is)
    (case p1 => k_is)
    (case i1 => k_is)
    (case y1 => k_is)
    (case s1 => k_is)
    (case n1 => decide)
    (case p2 => k_is)
    (case i2 => k_is)
    (case y2 => k_is)
    (case s2 => k_is)
    (case n2 => decide)
    (case p3 => k_is)
    (case i3 => k_is)
    (case y3 => k_is)
    (case s3 => k_is)
    (case n3 => decide)
    (case p4 => k_is)
    (case i4 => k_is)
    (case y4 => k_is)
    (case s4 => k_is)
    (case n4 => decide)
    (case p5 => k_is)
    (case i5 => k_is)
    (case y5 => k_is)
    (case s5 => k_is)
    (case n5 => decide)
    (case p6 => k_is)
    (case i6 => k_is)
    (case y6 => k_is)
    (case s6 => k_is)
    (case n6 => decide)
    (case p7 => k_is)
    (case i7 => k_is)
    (case y7 => k_is)
    (case s7 => k_is)
    (case n7 => decide)
    (case p8 => k_is)
    (case i8 => k_is)
    (case y8 => k_is)
    (case s8 => k_is)
    (case n8 => decide)
    (case p9 => k_is)
    (case i9 => k_is)
    (case y9 => k_is)
    (case s9 => k_is)
    (case n9 => decide)
    (case p10 => k_is)
    (case i10 => k_is)
    (case y10 => k_is)
    (case s10 => k_is)
    (case n10 => decide)
    (case p11 => k_is)
    (case i11 => k_is)
    (case y11 => k_is)
    (case s11 => k_is)
    (case n11 => decide)
    (case dD => k_is)
    (case db => k_is)
    (case dd => k_is)
    (case dy => k_is)
    (case ds => k_is)
    (case ta => k_is)
    (case tl => k_is)
    (case tc => rfl)
    (case tm => k_is)
    (case tv => rfl)
    (case np => first | kernel_rfl | decide +kernel | rfl)
