import PyProof.Rows.All
import Wide.All
import OpenK.AllK
import Wide.FinOn
import HandS.ForMost
import HandS.Wide
import HandS.Codes
import PySem.Challenge.RW_dotread_k12_fits_of_windows
import PyProof.TypeEq
import PyProof.InstEq
import PyProof.StrBlock2
import HandS.TupMul
import HandS.TupAny
import HandS.More
import PyProof.ListStr
import HandS.ForExc
import HandS.Zip
import KE.GoesMore
import KE.GoesZip
import KE.GoesEnum
import HandS.Deep
import HandS.List
import HandS.Text
import HandS.WideBits
import HandS.Flow
import HandS.IsInst
set_option Elab.async false
set_option linter.all false
set_option maxRecDepth 100000
set_option maxHeartbeats 4000000
namespace Dt
open PySem PySem.Spec PyProof.Rows L2
def topS (i : Nat) : Stmt := PySem.Challenge.pw_dotread_k12_fits_of_windows.main.body.getD i (.Pass ⟨0, 0, 0, 0⟩)
theorem inr_ne {a b : Str} (h : ¬ a = b) : ¬ (Sum.inr a : Key) = Sum.inr b := fun z => h (Sum.inr.inj z)
theorem same_upd {H : Hp} {p : Addr} {o : HO} (h : H p = none) : Same H (upd H p o) := fun b x e => by
  rw [upd_ne (ne_of_none e h)]
  exact e
theorem dpInts {K : PySem.W.Frag} {H : Hp} : ∀ ns : List Int, DpAll K H (ns.map V.int) (ns.map PyData.int)
  | [] => .nil
  | n :: r => .cons (.int n) (dpInts r)
end Dt
/-! rules of our own: types compared, a text times a number -/
namespace TyNe
open PySem PySem.TypeEq
open Sem (wp)
open Builtin
theorem slot_type_ne : Slot "type" (cmpInfo .NotEq).2.1 "object.__ne__" :=
  .of (owner := "object") (n := "__ne__") (by rw [typeLookup_type, builtinLookup_eq_fast]; kernel_rfl) (by decide +kernel) (by decide +kernel) (by decide +kernel)
    (by first | exact .inl (by decide +kernel) | exact .inr (by decide +kernel)) (by rw [isSubtype_type]; kernel_rfl)
theorem slot_type_ne2 : Slot "type" (cmpInfo .NotEq).2.2 "object.__ne__" :=
  .of (owner := "object") (n := "__ne__") (by rw [typeLookup_type, builtinLookup_eq_fast]; kernel_rfl) (by decide +kernel) (by decide +kernel) (by decide +kernel)
    (by first | exact .inl (by decide +kernel) | exact .inr (by decide +kernel)) (by rw [isSubtype_type]; kernel_rfl)
section
variable {prog : Program} {w : World} {A : Around} {E : Value → Shared → Prop} {s : Shared}
theorem call_ne_same {X : String} {Q : Value → Shared → Prop} (hX : ∀ s' : Shared, s'.TypeIs (.type X) "type") (h : Q (.bool false) s) : wpAny (model prog w) A (call (.builtin "object.__ne__") [.type X, .type X]) Q E s := by
  refine wpAny_call (codeAny_call_builtin slot_type_ne.plain F.cmpEntry_ne (slot_type_ne.check _ _ _ _ _ _ _ _ (hX s) (F.cmpArgs_ne _ _) ?_))
  unfold Builtin.«object.__ne__»
  repeat (first
    | with_reducible refine wpAny_cRoomFor_or (.inl rfl) ?_
    | (refine wpAny_bind (m := callSpecialIfBound? (.type X) (Str.ofString "__eq__") [.type X])
        (wpAny_callSpecialIfBound?_slot (hX _) slot_type_eq (call_gives slot_type_eq (hX _) F.entry_object_eq (F.args_object_eq_2 _ _) (object_eq_same rfl (by simp)) ?_)))
    | wp_step)
  show wpAny (model prog w) A.in1 (truthy (.bool true) >>= fun b => ret (.bool !b)) _ _ _
  exact wpAny_bind (wpAny_truthy_bool (wpAny_pure h))
theorem call_ne_other {X Y : String} {Q : Value → Shared → Prop} (hX : ∀ s' : Shared, s'.TypeIs (.type X) "type") (hne : (Value.type X == Value.type Y) = false) (h : Q .notImplemented s) : wpAny (model prog w) A (call (.builtin "object.__ne__") [.type X, .type Y]) Q E s := by
  refine wpAny_call (codeAny_call_builtin slot_type_ne.plain F.cmpEntry_ne (slot_type_ne.check _ _ _ _ _ _ _ _ (hX s) (F.cmpArgs_ne _ _) ?_))
  unfold Builtin.«object.__ne__»
  repeat (first
    | with_reducible refine wpAny_cRoomFor_or (.inl rfl) ?_
    | (refine wpAny_bind (m := callSpecialIfBound? (.type X) (Str.ofString "__eq__") [.type Y])
        (wpAny_callSpecialIfBound?_slot (hX _) slot_type_eq (call_gives slot_type_eq (hX _) F.entry_object_eq (F.args_object_eq_2 _ _) (object_eq_other rfl hne) ?_)))
    | wp_step)
  show wpAny (model prog w) A.in1 (ret .notImplemented) _ _ _
  exact wpAny_pure h
theorem ne_type_same {X : String} {Q : Value → Shared → Prop} (hX : ∀ s' : Shared, s'.TypeIs (.type X) "type") (h : Q (.bool false) s) : wpAny (model prog w) A (compareOp .NotEq (.type X) (.type X)) Q E s := by
  show wpAny _ A (richCompare .NotEq _ _) Q E s
  exact wpAny_richCompare_same (T := "type") (hX s) (hX s) slot_type_ne (call_ne_same hX ⟨(by intro e; cases e), h⟩)
theorem ne_type_other {X Y : String} {Q : Value → Shared → Prop} (hX : ∀ s' : Shared, s'.TypeIs (.type X) "type") (hY : ∀ s' : Shared, s'.TypeIs (.type Y) "type") (hne : (Value.type X == Value.type Y) = false) (h : Q (.bool true) s) :
    wpAny (model prog w) A (compareOp .NotEq (.type X) (.type Y)) Q E s := by
  have hne' : (Value.type Y == Value.type X) = false := by
    rw [Bool.eq_false_iff] at hne ⊢
    intro e
    exact hne (by rw [beq_iff_eq] at e ⊢; exact e.symm)
  show wpAny _ A (richCompare .NotEq _ _) Q E s
  have h1 := slot_type_ne
  have h2 := slot_type_ne2
  rcases hi : cmpInfo CmpOp.NotEq with ⟨sym, f, r⟩
  rw [hi] at h1 h2
  simp only [richCompare, hi, (hX s).oneThing_none]
  try with_reducible refine wpAny_holding ?_
  refine wpAny_bind (wpAny_cRoomFor_or (.inl rfl) ?_)
  refine wpAny_bind (wpAny_typeOf (hX s) (wpAny_bind (wpAny_typeOf (hY s) ?_)))
  simp only [bne_self_eq_false, Bool.false_eq_true, if_false, pure_bind, Bool.not_false, if_true]
  refine wpAny_bind (m := tryCompare _ _ _) (wpAny_tryCompare_declines (hX s) h1 (call_ne_other hX hne ⟨rfl, ?_⟩))
  refine wpAny_bind (m := tryCompare _ _ _) (wpAny_tryCompare_declines (hY _) h2 (call_ne_other hY hne' ⟨rfl, ?_⟩))
  refine wpAny_bind (wpAny_rule (wpAny_bind (wpAny_of_eq (a := false) (by rw [isSame_plain rfl, hne]) (wpAny_pure h))))
end
end TyNe
namespace L2X
open PySem PySem.Spec PyProof.Rows L2
/-- the built-in classes that are compared here -/
def tyOk (a : String) : Bool := a = "int" ∨ a = "str" ∨ a = "bool" ∨ a = "NoneType" ∨ a = "list" ∨ a = "tuple" ∨ a = "dict"
theorem tyOk_is {a : String} (h : tyOk a = true) : ∀ s' : Shared, s'.TypeIs (.type a) "type" := by
  unfold tyOk at h
  rcases of_decide_eq_true h with rfl | rfl | rfl | rfl | rfl | rfl | rfl
  · exact TypeEq.meta_int
  · exact TypeEq.meta_str
  · exact TypeEq.meta_bool
  · exact TypeEq.meta_NoneType
  · exact TypeEq.meta_list
  · exact TypeEq.meta_tuple
  · exact TypeEq.meta_dict
theorem ty_ne {a b : String} (h : a ≠ b) : (Value.type a == Value.type b) = false := beq_eq_false_iff_ne.mpr fun z => h (Value.type.inj z)
def rTyC (g : Bool → Bool) : R2 := fun x y H Q => ∃ a b, x = .ty a ∧ y = .ty b ∧ tyOk a = true ∧ tyOk b = true ∧ Q (.bl (g (decide (a = b)))) H
section
variable {X : Cx}
theorem op_eq_ty : OpR X (compareOp .Eq) (rTyC id) := by
  intro pins s σ H x y v u Q I rx ry h
  obtain ⟨a, b, rfl, rfl, ha, hb, q⟩ := h
  cases (show v = Value.type a from rx)
  cases (show u = Value.type b from ry)
  by_cases e : a = b
  · subst e
    refine TypeEq.eq_type_same (tyOk_is ha) ⟨.bl true, H, I, rfl, ?_⟩
    rw [decide_eq_true rfl] at q
    exact q
  · refine TypeEq.eq_type_other (tyOk_is ha) (tyOk_is hb) (ty_ne e) ⟨.bl false, H, I, rfl, ?_⟩
    rw [decide_eq_false e] at q
    exact q
theorem op_ne_ty : OpR X (compareOp .NotEq) (rTyC not) := by
  intro pins s σ H x y v u Q I rx ry h
  obtain ⟨a, b, rfl, rfl, ha, hb, q⟩ := h
  cases (show v = Value.type a from rx)
  cases (show u = Value.type b from ry)
  by_cases e : a = b
  · subst e
    refine TyNe.ne_type_same (tyOk_is ha) ⟨.bl false, H, I, rfl, ?_⟩
    rw [decide_eq_true rfl] at q
    exact q
  · refine TyNe.ne_type_other (tyOk_is ha) (tyOk_is hb) (ty_ne e) ⟨.bl true, H, I, rfl, ?_⟩
    rw [decide_eq_false e] at q
    exact q
/-- text * n -/
theorem op_mul_str : OpR X (binaryOp .Mult) (fun x y H Q => ∃ z n, x = .str z ∧ y = .int n ∧ MulOk z n ∧ Q (.str (Txt.mul z n)) H) := by
  intro pins s σ H x y v u Q I rx ry h
  obtain ⟨z, n, rfl, rfl, hk, q⟩ := h
  obtain ⟨t, rfl⟩ := rx
  obtain ⟨t', rfl⟩ := ry
  exact SB.mul hk fun t' k => ⟨.str _, H, I.tok _, ⟨_, rfl⟩, q⟩
end
end L2X
namespace Dt
open PySem PySem.Spec PyProof.Rows L2 L2X
open SX (S)
/-- the built-ins that are named in the text -/
structure Tx (mg : Str → Option Value) : Prop where
  len : mg "len" = none
  range : mg "range" = none
  tuple : mg "tuple" = none
  list : mg "list" = none
  int : mg "int" = none
/-! ### rows and pictures -/
def rv (l : List Nat) : V := .str (S l)
structure RowR (wide : Nat) (l : List Nat) : Prop where
  len : l.length = wide
  sg : ∀ c ∈ l, c = 35 ∨ c = 46
structure PicR (high wide : Nat) (rs : List (List Nat)) : Prop where
  len : rs.length = high
  row : ∀ l ∈ rs, RowR wide l
  h0 : 1 ≤ high
  h1 : high ≤ 60
  w0 : 1 ≤ wide
  w1 : wide ≤ 120
theorem s_dot : ("." : Str) = S [46] := by decide +kernel
theorem s_hash : ("#" : Str) = S [35] := by decide +kernel
theorem s_empty : ("" : Str) = S [] := by decide +kernel
/-! ### a sign many times; signs joined -/
theorem fold_rep (c : Nat) : ∀ (n : Nat) (acc : Array Nat), (List.replicate n #[c]).foldl (· ++ ·) acc = acc ++ (List.replicate n c).toArray
  | 0, acc => by simp
  | n + 1, acc => by
    rw [List.replicate_succ, List.foldl_cons, fold_rep c n (acc ++ #[c]), List.replicate_succ]
    apply Array.ext'
    simp
theorem mul_sign (c n : Nat) (h : 1 ≤ n) : Txt.mul (S [c]) (n : Int) = S (List.replicate n c) := by
  unfold Txt.mul
  rw [if_neg (by omega)]
  by_cases e : n = 1
  · subst e
    rfl
  · have e1 : (((n : Int) == 1) || (S [c]).length == 0) = false := by
      have a1 : ((n : Int) == 1) = false := by
        rw [beq_eq_false_iff_ne]
        omega
      rw [a1]
      rfl
    rw [e1, if_neg Bool.false_ne_true]
    have q := fold_rep c n #[]
    show (⟨(List.replicate (n : Int).toNat #[c]).foldl (· ++ ·) #[]⟩ : Str) = _
    rw [Int.toNat_natCast, q]
    simp [S]
theorem mul_ok (c n : Nat) (h : 1 ≤ n) (h2 : n ≤ 120) : MulOk (S [c]) (n : Int) := by
  refine ⟨?_, fun _ _ => ?_, fun _ _ => ?_⟩
  · rw [Bool.or_eq_false_iff, decide_eq_false_iff_not, decide_eq_false_iff_not]
    omega
  · show ¬ ((1 : Nat) : Int) > (2 ^ 63 - 1) / (n : Int)
    have : (1 : Int) ≤ (2 ^ 63 - 1) / (n : Int) := (Int.le_ediv_iff_mul_le (by omega)).mpr (by omega)
    omega
  · have e : (S [c]).length * (n : Int).toNat = n := by
      show 1 * (n : Int).toNat = n
      omega
    rw [e]
    unfold Builtin.Str.tooLong
    have z : n ≤ sizeLine := Nat.le_of_lt (small1000 (by omega))
    first
      | (rw [decide_eq_false_iff_not]; omega)
      | (simp; omega)
theorem joinL_ones : ∀ cs : List Nat, TL.joinL [] (cs.map fun c => [c]) = cs
  | [] => rfl
  | [c] => rfl
  | c :: d :: r => by
    show [c] ++ ([] ++ TL.joinL [] ((d :: r).map fun c => [c])) = _
    rw [joinL_ones (d :: r)]
    rfl
theorem join_ones (cs : List Nat) : Txt.join "" (cs.map fun c => S [c]) = S cs := by
  rw [s_empty]
  have e := SX.join_S [] (cs.map fun c => [c])
  rw [joinL_ones, List.map_map] at e
  exact e
theorem lens_ones : ∀ cs : List Nat, ((cs.map fun c => S [c]).map (·.length)).sum = cs.length
  | [] => rfl
  | c :: r => by
    show 1 + ((r.map fun c => S [c]).map (·.length)).sum = r.length + 1
    rw [lens_ones r, Nat.add_comm]
theorem row_rep (c wide : Nat) (h : c = 35 ∨ c = 46) : RowR wide (List.replicate wide c) := ⟨List.length_replicate, fun x hx => by rw [(List.mem_replicate.mp hx).2]; exact h⟩
end Dt
namespace Dt
open PySem PySem.Spec PyProof.Rows L2 L2X
open SX (S)
/-! ### what is a picture -/
def rowOk : V → Bool
  | .str x => decide (1 ≤ x.length) && decide (x.length ≤ 120) && decide (Txt.count x "#" + Txt.count x "." = (x.length : Int))
  | _ => false
theorem rowOk_str (x : Str) : rowOk (.str x) = (decide (1 ≤ x.length) && decide (x.length ≤ 120) && decide (Txt.count x "#" + Txt.count x "." = (x.length : Int))) := rfl
def lenV : V → Int
  | .str x => x.length
  | _ => 0
def picOk (xs : List V) : Bool := decide (1 ≤ xs.length) && decide (xs.length ≤ 60) && xs.all rowOk && xs.all fun y => decide (lenV y = lenV (xs.headD .non))
/-- a thing of a known kind -/
def Kn (K : PySem.W.Frag) (H : Hp) (x : V) : Prop := (∃ T, TyB K H x T ∧ tyOk T = true) ∧ ∀ z, x = .str z → z.length ≤ sizeLine
structure Tp (mg : Str → Option Value) : Prop where
  typ : mg "type" = none
  str : mg "str" = none
  all : mg "all" = none
  mr : ∃ t, mg "MOST_ROWS" = some (.int 60 t)
  mc : ∃ t, mg "MOST_COLUMNS" = some (.int 120 t)
abbrev sIsText : Stmt := topS 10
theorem scIsText : FnScope ["thing"] ["thing"] (defScope sIsText) := ⟨rfl, rfl, rfl, by decide +kernel, rfl, by decide +kernel, by decide +kernel⟩
def isStr : V → Bool
  | .str _ => true
  | _ => false
def spIsText (K : PySem.W.Frag) : Sp := fun vs H Q _ => ∃ x, vs = [x] ∧ Kn K H x ∧ Q (.bl (isStr x)) H
abbrev sIsRow : Stmt := topS 17
theorem scIsRow : FnScope ["thing"] ["thing"] (defScope sIsRow) := ⟨rfl, rfl, rfl, by decide +kernel, rfl, by decide +kernel, by decide +kernel⟩
def spIsRow (K : PySem.W.Frag) : Sp := fun vs H Q _ => ∃ x, vs = [x] ∧ Kn K H x ∧ Q (.bl (rowOk x)) H
theorem isStr_ty {K : PySem.W.Frag} {H : Hp} {x : V} {T : String} (t : TyB K H x T) : decide (T = "str") = isStr x := by
  cases t <;> rfl
section
variable {P : Program} {w : World} {K : PySem.W.Frag} {mg : Str → Option Value} {base : Heap}
theorem ok_isText {f : Addr} {fd : FuncData} {k : Nat} (F : Fun K "is_text" "is_text" sIsText f fd) (T : Tp mg) : FnOk P w K mg base CX0 (k + 1) f fd ["thing"] (spIsText K) := by
  refine F.ok scIsText (fun vs H Q E h => ?_) (fun cdv A outer s H vs Q E hr h => ?_)
  · obtain ⟨x, rfl, _⟩ := h
    rfl
  · obtain ⟨x, rfl, ⟨⟨Ty, ht, ok⟩, _⟩, q⟩ := h
    refine ⟨_, pss_one (ps_ret (pe_cmpR op_eq_ty (pe_callTy call_type1 (by rfl) T.typ (by decide +kernel) (pa_cons (pv 0) pa_nil)) (pe_bltn (v := .ty "str") (u := .type "str") (by rfl) T.str (by decide +kernel) rfl) (nomark _))), ?_⟩
    refine ⟨x, rfl, x, Ty, rfl, ht, Ty, "str", rfl, rfl, ok, rfl, ?_⟩
    have e : id (decide (Ty = "str")) = isStr x := isStr_ty ht
    rw [e]
    exact q
theorem ok_isRow {f fT : Addr} {fd fdT : FuncData} {k : Nat} (F : Fun K "_is_row" "_is_row" sIsRow f fd) (T : Tp mg) (X : Tx mg) (GT : FnOk P w K mg base CX0 (k + 1) fT fdT ["thing"] (spIsText K)) (mT : mg "is_text" = some (.ref fT)) (kT : PySem.W.keepIn K (.ref fT) = true) (bT : Binds K fdT ["thing"] []) : FnOk P w K mg base CX0 (k + 2) f fd ["thing"] (spIsRow K) := by
  refine F.ok scIsRow (fun vs H Q E h => ?_) (fun cdv A outer s H vs Q E hr h => ?_)
  · obtain ⟨x, rfl, _⟩ := h
    rfl
  · obtain ⟨x, rfl, kn, q⟩ := h
    obtain ⟨t, hmc⟩ := T.mc
    refine ⟨_, pss_cons (ps_if (PW.pt (pw_or (pt_not (pt_val (pe_call GT hr (by rfl) mT kT bT .nil pass0 (pa_cons (pv 0) pa_nil)))) (pw_or1 (pt_not (pt_chain op_le op_le pe_int (pe_callB call_len_str (by rfl) X.len PySem.boot_len (pa_cons (pv 0) pa_nil)) (pe_glob (v := .int 120) (by rfl) hmc ⟨_, rfl⟩))))))
        (pss_one (ps_ret pe_bl)) pss_nil)
      (pss_one (ps_ret (pe_cmpR op_eq (pe_op op_add (pe_m1 PySem.F.slot_str_count PySem.F.type_str_count mt_count (pv 0) pe_str) (pe_m1 PySem.F.slot_str_count PySem.F.type_str_count mt_count (pv 0) pe_str)) (pe_callB call_len_str (by rfl) X.len PySem.boot_len (pa_cons (pv 0) pa_nil)) (nomark _)))), ?_⟩
    refine ⟨x, rfl, x, rfl, kn, _, rfl, ?_⟩
    cases x with
    | str z =>
      have hz := kn.2 z rfl
      refine iteF ?_
      refine ⟨.str z, rfl, z, rfl, hz, 1, _, rfl, rfl, _, rfl, ?_⟩
      refine ite2 (fun e => ?_) (fun e => ?_)
      · refine ⟨_, 120, rfl, rfl, _, rfl, ite2 (fun e2 => ?_) (fun e2 => ?_)⟩
        · have e3 : ¬ z.length ≤ 120 := fun le => by
            have : decide ((z.length : Int) ≤ 120) = true := decide_eq_true (by omega)
            rw [this] at e2
            cases e2
          have e4 : rowOk (.str z) = false := by
            rw [rowOk_str, decide_eq_false e3, Bool.and_false, Bool.false_and]
          rw [e4] at q
          exact q
        · have e3 : z.length ≤ 120 := by
            have h1 : ¬ ((!decide ((z.length : Int) ≤ 120)) = true) := e2
            have h2 : decide ((z.length : Int) ≤ 120) = true := by
              cases hh : decide ((z.length : Int) ≤ 120) with
              | true => rfl
              | false =>
                rw [hh] at h1
                exact absurd rfl h1
            have := of_decide_eq_true h2
            omega
          have e1 : 1 ≤ z.length := by
            have := of_decide_eq_true e
            omega
          refine ⟨.str z, rfl, ⟨_, rfl⟩, z, "#", rfl, rfl, .str z, rfl, ⟨_, rfl⟩, z, ".", rfl, rfl, _, _, rfl, rfl, .str z, rfl, z, rfl, hz, rfl, ?_⟩
          have e4 : rowOk (.str z) = decide (V.int (Txt.count z "#" + Txt.count z ".") = V.int (z.length : Int)) := by
            rw [rowOk_str, decide_eq_true e1, decide_eq_true e3, Bool.true_and, Bool.true_and]
            exact Bool.eq_iff_iff.mpr ⟨fun h => decide_eq_true (congrArg V.int (of_decide_eq_true h)), fun h => decide_eq_true (V.int.inj (of_decide_eq_true h))⟩
          rw [e4] at q
          exact q
      · have e1 : ¬ 1 ≤ z.length := fun le => e (decide_eq_true (by omega))
        have e4 : rowOk (.str z) = false := by
          rw [rowOk_str, decide_eq_false e1, Bool.false_and, Bool.false_and]
        rw [e4] at q
        exact ⟨_, rfl, q⟩
    | _ => exact iteT (iteT q)
/-! ### is_picture -/
abbrev sIsPic : Stmt := topS 16
theorem scIsPic : FnScope ["thing", "row"] ["thing"] (defScope sIsPic) := ⟨rfl, rfl, rfl, by decide +kernel, rfl, by decide +kernel, by decide +kernel⟩
/-- a thing as is_picture may be asked: no tuple, or a tuple whose items are of known kinds -/
def Asked (K : PySem.W.Frag) (H : Hp) (x : V) (b : Bool) : Prop :=
  (∃ T, TyB K H x T ∧ tyOk T = true ∧ T ≠ "tuple" ∧ b = false) ∨ ∃ a xs, x = .ref a ∧ SqT K H a xs ∧ (xs.length ≤ 60 → ∀ y ∈ xs, Kn K H y) ∧ b = picOk xs
def spIsPic (K : PySem.W.Frag) : Sp := fun vs H Q _ => ∃ x b, vs = [x] ∧ Asked K H x b ∧ ∀ H', Same H H' → Q (.bl b) H'
theorem sameT {K : PySem.W.Frag} {H H' : Hp} {a : Addr} {xs : List V} (e : Same H H') (h : SqT K H a xs) : SqT K H' a xs := by
  rcases h with (h | ⟨o, h⟩) | h
  · exact .inl (.inl (e _ _ h))
  · exact .inl (.inr ⟨o, e _ _ h⟩)
  · exact .inr h
theorem Kn.same {H H' : Hp} {x : V} (h : Kn K H x) (s : Same H H') : Kn K H' x := by
  obtain ⟨⟨T, t, ok⟩, hz⟩ := h
  refine ⟨⟨T, ?_, ok⟩, hz⟩
  cases t with
  | non => exact .non
  | bl b => exact .bl b
  | int i => exact .int i
  | str x => exact .str x
  | byt b => exact .byt b
  | lst h => exact .lst (s.seq h)
  | tup h => exact .tup (sameT s h)
  | dK h => exact .dK (s _ _ h)
theorem iteE {c : Bool} {A B : Prop} (e : c = false) (h : B) : if c = true then A else B := by
  rw [e]
  exact iteF h
theorem iteY {c : Bool} {A B : Prop} (e : c = true) (h : A) : if c = true then A else B := by
  rw [e]
  exact iteT h
theorem take_snoc {α : Type} {xs : List α} {i : Nat} {x : α} (h : xs[i]? = some x) : xs.take (i + 1) = xs.take i ++ [x] := by
  rw [List.take_add_one, h]
  rfl
theorem all_map_id {α : Type} (f : α → Bool) : ∀ xs : List α, (xs.map f).all id = xs.all f
  | [] => rfl
  | x :: r => by
    show (id (f x) && (r.map f).all id) = (f x && r.all f)
    rw [all_map_id f r]
    rfl
theorem bls {α : Type} (f : α → Bool) (xs : List α) : xs.map (fun y => V.bl (f y)) = (xs.map f).map V.bl := by
  rw [List.map_map]
  rfl
theorem ok_isPic {f fR : Addr} {fd fdR : FuncData} {k : Nat} (F : Fun K "is_picture" "is_picture" sIsPic f fd) (T : Tp mg) (X : Tx mg) (GR : FnOk P w K mg base CX0 (k + 1) fR fdR ["thing"] (spIsRow K)) (mR : mg "_is_row" = some (.ref fR)) (kR : PySem.W.keepIn K (.ref fR) = true) (bR : Binds K fdR ["thing"] []) : FnOk P w K mg base CX0 (k + 2) f fd ["thing"] (spIsPic K) := by
  refine F.ok scIsPic (fun vs H Q E h => ?_) (fun cdv A outer s H vs Q E hr h => ?_)
  · obtain ⟨x, b, rfl, _⟩ := h
    rfl
  · obtain ⟨x, b, rfl, ask, q⟩ := h
    obtain ⟨t, hmr⟩ := T.mr
    have nd := scIsPic.nd
    refine ⟨_, pss_cons (ps_if (PW.pt (pw_or (pt_cmpR op_ne_ty (pe_callTy call_type1 (by rfl) T.typ (by decide +kernel) (pa_cons (pv 0) pa_nil)) (pe_bltn (v := .ty "tuple") (u := .type "tuple") (by rfl) X.tuple (by decide +kernel) rfl) (nomark _)) (pw_or1 (pt_not (pt_chain op_le op_le pe_int (pe_callB call_len_seq (by rfl) X.len PySem.boot_len (pa_cons (pv 0) pa_nil)) (pe_glob (v := .int 60) (by rfl) hmr ⟨_, rfl⟩))))))
        (pss_one (ps_ret pe_bl)) pss_nil)
      (pss_cons (ps_if (pt_not (pt_val (pe_callB (cr_all rfl) (by rfl) T.all (by decide +kernel) (pa_cons (pe_lc (own := [("row", 1)]) (g := gName 1) (tt := tYes) rfl nd (pi_tup (pv 0)) (blkOk_by (N := ["thing", "row"]) (sc := defScope sIsPic) (by decide +kernel)) (fun _ _ _ _ _ => pg_name (i := 1) nd rfl (Or.inl rfl)) (fun _ _ _ _ _ => pts_nil)
            (fun _ _ _ _ _ => pe_call GR hr (by rfl) mR kR bR .nil pass0 (pa_cons (pv 1) pa_nil))) pa_nil)))) (pss_one (ps_ret pe_bl)) pss_nil)
      (pss_one (ps_ret (pe_callB (cr_all rfl) (by rfl) T.all (by decide +kernel) (pa_cons (pe_lc (own := [("row", 1)]) (g := gName 1) (tt := tYes) rfl nd (pi_tup (pv 0)) (blkOk_by (N := ["thing", "row"]) (sc := defScope sIsPic) (by decide +kernel)) (fun _ _ _ _ _ => pg_name (i := 1) nd rfl (Or.inl rfl)) (fun _ _ _ _ _ => pts_nil)
            (fun _ _ _ _ _ => pe_cmpR op_eq (pe_callB call_len_str (by rfl) X.len PySem.boot_len (pa_cons (pv 1) pa_nil)) (pe_callB call_len_str (by rfl) X.len PySem.boot_len (pa_cons (pe_ix (r := rIxT K) ix_tup (pv 0) pe_int (fun _ _ => rfl)) pa_nil)) (nomark _))) pa_nil))))), ?_⟩
    rcases ask with ⟨Ty, ht, ok, ne, rfl⟩ | ⟨a, xs, rfl, hx, kn, rfl⟩
    · refine ⟨x, rfl, x, Ty, rfl, ht, Ty, "tuple", rfl, rfl, ok, rfl, _, rfl, ?_⟩
      have e : not (decide (Ty = "tuple")) = true := by rw [decide_eq_false ne]; rfl
      exact iteY e (q H (Same.refl H))
    · refine ⟨.ref a, rfl, .ref a, "tuple", rfl, .tup hx, "tuple", "tuple", rfl, rfl, rfl, rfl, _, rfl, iteE (by decide) ?_⟩
      refine ⟨.ref a, rfl, a, xs, rfl, .inr hx, 1, _, rfl, rfl, _, rfl, ite2 (fun e => ?_) (fun e => ?_)⟩
      · have e1 : 1 ≤ xs.length := by
          have := of_decide_eq_true e
          omega
        refine ⟨_, 60, rfl, rfl, _, rfl, ite2 (fun e2 => ?_) (fun e2 => ?_)⟩
        · have e3 : ¬ xs.length ≤ 60 := fun le => by
            have : decide ((xs.length : Int) ≤ 60) = true := decide_eq_true (by omega)
            rw [this] at e2
            cases e2
          have z : picOk xs = false := by
            unfold picOk
            rw [decide_eq_false e3, Bool.and_false, Bool.false_and, Bool.false_and]
          rw [z] at q
          exact q H (Same.refl H)
        · have e3 : xs.length ≤ 60 := by
            have h1 : ¬ ((!decide ((xs.length : Int) ≤ 60)) = true) := e2
            have h2 : decide ((xs.length : Int) ≤ 60) = true := by
              cases hh : decide ((xs.length : Int) ≤ 60) with
              | true => rfl
              | false =>
                rw [hh] at h1
                exact absurd rfl h1
            have := of_decide_eq_true h2
            omega
          have kn' := kn e3
          refine ⟨.ref a, rfl, a, rfl, ⟨_, hx⟩, fun Dd hDd => lc_tup (K := K) (a := a) (xs := xs) (fun i H2 => Same H H2 ∧ H2 Dd = some (.lst ((xs.take i).map fun y => V.bl (rowOk y)))) ⟨same_upd hDd, upd_same⟩ (fun i H2 _ z => sameT z.1 hx) ?_ ?_⟩
          · rintro i y H2 hi ⟨sm, h2⟩
            have hm : y ∈ xs := List.mem_of_getElem? hi
            refine ⟨rfl, y, rfl, y, rfl, (kn' y hm).same sm, _, h2, ?_, ?_, ?_⟩
            · rw [List.length_map, List.length_take]
              exact small1000 (by omega)
            · exact fun b o e => by
                rw [upd_ne (ne_of_none e hDd)]
                exact sm _ _ e
            · rw [upd_same, take_snoc hi, List.map_append]
              rfl
          · rintro H2 ⟨sm, h2⟩
            rw [List.take_length, bls] at h2
            refine ⟨Dd, xs.map rowOk, rfl, SqL.of h2, _, rfl, ?_⟩
            rw [all_map_id]
            cases eall : xs.all rowOk with
            | false =>
              have z : picOk xs = false := by
                unfold picOk
                rw [eall, Bool.and_false, Bool.false_and]
              rw [z] at q
              exact q H2 sm
            | true =>
              have hx2 : SqT K H2 a xs := sameT sm hx
              obtain ⟨x0, r0, rfl⟩ : ∃ x0 r0, xs = x0 :: r0 := by
                cases xs with
                | nil => exact absurd e1 (by decide)
                | cons x0 r0 => exact ⟨x0, r0, rfl⟩
              have isS : ∀ y ∈ x0 :: r0, ∃ z : Str, y = .str z ∧ z.length ≤ sizeLine := fun y hy => by
                have h := List.all_eq_true.mp eall y hy
                cases y with
                | str z => exact ⟨z, rfl, (kn' _ hy).2 z rfl⟩
                | _ => cases h
              obtain ⟨z0, ez0, hz0⟩ := isS x0 List.mem_cons_self
              refine ⟨.ref a, rfl, a, rfl, ⟨_, hx2⟩, fun D2 hD2 => lc_tup (K := K) (a := a) (xs := x0 :: r0) (fun i H3 => Same H2 H3 ∧ H3 D2 = some (.lst (((x0 :: r0).take i).map fun y => V.bl (decide (lenV y = lenV x0))))) ⟨same_upd hD2, upd_same⟩ (fun i H3 _ z => sameT z.1 hx2) ?_ ?_⟩
              · rintro i y H3 hi ⟨sm3, h3⟩
                have hm : y ∈ x0 :: r0 := List.mem_of_getElem? hi
                obtain ⟨zy, ey, hzy⟩ := isS y hm
                refine ⟨rfl, y, rfl, zy, by rw [ey], hzy, .ref a, rfl, a, x0 :: r0, 0, x0, rfl, rfl, sameT sm3 hx2, atI_nat (j := 0) rfl, z0, by rw [ez0], hz0, rfl, _, h3, ?_, ?_, ?_⟩
                · rw [List.length_map, List.length_take]
                  exact small1000 (by omega)
                · exact fun b o e => by
                    rw [upd_ne (ne_of_none e hD2)]
                    exact sm3 _ _ e
                · rw [upd_same, take_snoc hi, List.map_append]
                  have e5 : decide (V.int (zy.length : Int) = V.int (z0.length : Int)) = decide (lenV y = lenV x0) := by
                    rw [ey, ez0]
                    exact Bool.eq_iff_iff.mpr ⟨fun h => decide_eq_true (V.int.inj (of_decide_eq_true h)), fun h => decide_eq_true (congrArg V.int (of_decide_eq_true h))⟩
                  rw [e5]
                  rfl
              · rintro H3 ⟨sm3, h3⟩
                rw [List.take_length, bls] at h3
                refine ⟨D2, _, rfl, SqL.of h3, ?_⟩
                rw [all_map_id]
                have z : picOk (x0 :: r0) = (x0 :: r0).all fun y => decide (lenV y = lenV x0) := by
                  unfold picOk
                  rw [eall, decide_eq_true e1, decide_eq_true e3]
                  rfl
                rw [z] at q
                exact q H3 (sm.trans sm3)
      · have e1 : ¬ 1 ≤ xs.length := fun le => e (decide_eq_true (by omega))
        have z : picOk xs = false := by
          unfold picOk
          rw [decide_eq_false e1, Bool.false_and, Bool.false_and, Bool.false_and]
        rw [z] at q
        exact ⟨_, rfl, q H (Same.refl H)⟩
end
end Dt
namespace L2X
open PySem PySem.Spec PyProof.Rows L2
section
variable {X : Cx}
/-- a tuple once is itself -/
theorem tuple_mul1 (l : Addr) (items : Array Value) (n : Nat) (dd : Option Addr) (sl : Array (Option Value)) (u : Tok) :
    Meets (Builtin.«tuple.__mul__» ⟨[.ref l, .int 1 u], []⟩) (fun _ R s => s.heap.get? l = some { cls := .type "tuple", dict := dd, data := .seq items n, slots := sl } ∧ R (.ok (.ret (Value.ref l))) s) :=
  .of_wp fun prog w A R s h => by
    obtain ⟨hp, g, d, tk, os⟩ := s
    obtain ⟨hl, h⟩ := h
    have f1 := AutoSeq1.idx_int
    wp_walk using wpAny_loadPart' hl
    exact ⟨_, rfl, h⟩
/-- list(text) -/
theorem vals_signs : ∀ (l : List Nat) (its : List Value), l.length = its.length → (∀ (j : Nat) (v : Value), its[j]? = some v → ∃ (c : Nat) (u : Tok), l[j]? = some c ∧ v = Value.str ⟨#[c]⟩ u) → Vals (l.map fun c => V.str ⟨#[c]⟩) its
  | [], [], _, _ => .nil
  | [], _ :: _, h, _ => by cases h
  | _ :: _, [], h, _ => by cases h
  | c :: r, v :: t, h, g => by
    obtain ⟨c', u, e1, e2⟩ := g 0 v rfl
    have e3 : c = c' := Option.some.inj e1
    subst e3
    refine .cons ⟨u, e2⟩ (vals_signs r t (Nat.succ.inj h) fun j w e => ?_)
    obtain ⟨c2, u2, e4, e5⟩ := g (j + 1) w e
    exact ⟨c2, u2, e4, e5⟩
theorem call_listS (hc : X.calm = true) : CallR X (.type "list") (fun xs H Q => ∃ x : Str, xs = [.str x] ∧ x.length ≤ sizeLine ∧ ∀ l, H l = none → Q (.ref l) (upd H l (.lst (x.cps.toList.map fun c => V.str ⟨#[c]⟩)))) := by
  intro pins s σ H xs us Q I r h
  obtain ⟨x, rfl, hx, q⟩ := h
  obtain ⟨u, rfl, t, rfl⟩ := vals1 r
  refine call_list_str (I.ok.hd hc) x t (fun h' tk acc c' keeps got it => ?_) hx
  have hl : x.cps.toList.length = acc.toList.length := by
    rw [Array.length_toList, Array.length_toList, it.1]
  have vs := vals_signs x.cps.toList acc.toList hl fun j v e => by
    obtain ⟨c, u', e1, e2⟩ := it.2 j v (by rw [← Array.getElem?_toList]; exact e)
    exact ⟨c, u', by rw [Array.getElem?_toList]; exact e1, e2⟩
  refine ⟨.ref s.heap.objs.size, _, I.laid (t' := tk) keeps (Nat.le_refl _) ?_, rfl, q _ (I.hok.fresh (Nat.le_refl _))⟩
  refine ⟨?_, acc.toList, c', vs, ?_⟩
  · rw [List.length_map]
    exact hx
  · rw [got]
/-- t * n, n from 1 on -/
def rRepA (K : PySem.W.Frag) : R2 := fun x y H Q => ∃ l k xs, x = .ref l ∧ y = .int k ∧ SqT K H l xs ∧ xs ≠ [] ∧ 1 ≤ k ∧ k ≤ 1000 ∧ xs.length ≤ 1000 ∧ (k = 1 → Q (.ref l) H) ∧ (2 ≤ k → ∀ p, H p = none → Q (.ref p) (upd H p (.tup (List.replicate k.toNat xs).flatten)))
theorem op_repA : OpR X (binaryOp .Mult) (rRepA X.K) := by
  intro pins s σ H x y v u Q I rx ry h
  obtain ⟨l, k, xs, rfl, rfl, hT, hne, h1, h2, hz, q1, q2⟩ := h
  by_cases e1 : k = 1
  · subst e1
    cases rx
    obtain ⟨t, rfl⟩ := ry
    obtain ⟨its, _, ⟨⟨cls, dd, data, sl⟩, got, hc, n, hd⟩, _⟩ := I.tuple hT
    simp only at hc hd
    subst hc hd
    have once := tuple_mul1 l its.toArray n dd sl t
    have back := int_rmul_tuple 1 t l its.toArray n dd sl
    refine wpAny_binaryOp_repeat_ref (T := "tuple") (U := "int") (by decide) ⟨_, got, rfl⟩ (fun s' => typeIs_int s' 1 t)
      noFill_tuple_mul F.fills_int_mul F.slot_int_rmul repeat_tuple F.slot_int_index.lookup ?_
    refine call_meets F.slot_int_rmul (typeIs_int s 1 t) F.entry_int_rmul (F.args_int_rmul_2 _ _) back ⟨got, rfl, ⟨_, got, rfl⟩, ?_⟩
    refine call_meets F.slot_tuple_mul ⟨_, got, rfl⟩ F.entry_tuple_mul (F.args_tuple_mul_2 _ _) once ⟨got, ?_⟩
    exact ⟨.ref l, H, I, rfl, q1 rfl⟩
  · exact op_repT pins s σ H _ _ v u Q I rx ry ⟨l, k, xs, rfl, rfl, hT, hne, by omega, h2, hz, q2 (by omega)⟩
end
end L2X
namespace Dt
open PySem PySem.Spec PyProof.Rows L2 L2X
open SX (S)
/-! ### rows and pictures by their signs -/
theorem cnt_two : ∀ l : List Nat, cnt 35 l + cnt 46 l ≤ l.length ∧ (cnt 35 l + cnt 46 l = l.length ↔ ∀ c ∈ l, c = 35 ∨ c = 46)
  | [] => ⟨by rw [cnt_nil, cnt_nil]; exact Int.le_refl _, by rw [cnt_nil, cnt_nil]; exact ⟨fun _ _ h => (List.not_mem_nil h).elim, fun _ => rfl⟩⟩
  | n :: r => by
    obtain ⟨h1, h2⟩ := cnt_two r
    rw [cnt_cons, cnt_cons, List.length_cons]
    have e : ∀ c ∈ n :: r, (c = 35 ∨ c = 46) ↔ True ∧ (c = 35 ∨ c = 46) := fun c _ => by simp
    by_cases a : n = 35
    · subst a
      rw [if_pos rfl, if_neg (by decide)]
      refine ⟨by omega, ⟨fun z => ?_, fun z => ?_⟩⟩
      · have z2 := h2.mp (by omega)
        intro c hc
        rcases List.mem_cons.mp hc with q | q
        · exact .inl q
        · exact z2 c q
      · have := h2.mpr fun c hc => z c (List.mem_cons_of_mem _ hc)
        omega
    · by_cases b : n = 46
      · subst b
        rw [if_neg (by decide), if_pos rfl]
        refine ⟨by omega, ⟨fun z => ?_, fun z => ?_⟩⟩
        · have z2 := h2.mp (by omega)
          intro c hc
          rcases List.mem_cons.mp hc with q | q
          · exact .inr q
          · exact z2 c q
        · have := h2.mpr fun c hc => z c (List.mem_cons_of_mem _ hc)
          omega
      · rw [if_neg a, if_neg b]
        refine ⟨by omega, ⟨fun z => by omega, fun z => ?_⟩⟩
        rcases z n List.mem_cons_self with q | q
        · exact absurd q a
        · exact absurd q b
theorem rowOk_S (l : List Nat) : rowOk (.str (S l)) = (decide (1 ≤ l.length) && decide (l.length ≤ 120) && decide (∀ c ∈ l, c = 35 ∨ c = 46)) := by
  have e : decide (Txt.count (S l) "#" + Txt.count (S l) "." = ((S l).length : Int)) = decide (∀ c ∈ l, c = 35 ∨ c = 46) := by
    rw [s_hash, s_dot, count_cnt, count_cnt, SX.S_len]
    exact Bool.eq_iff_iff.mpr ⟨fun h => decide_eq_true ((cnt_two l).2.mp (of_decide_eq_true h)), fun h => decide_eq_true ((cnt_two l).2.mpr (of_decide_eq_true h))⟩
  rw [rowOk_str, e, SX.S_len]
theorem rowOk_rv {wide : Nat} {l : List Nat} (h : RowR wide l) (w0 : 1 ≤ wide) (w1 : wide ≤ 120) : rowOk (rv l) = true := by
  unfold rv
  rw [rowOk_S, h.len, decide_eq_true w0, decide_eq_true w1, decide_eq_true h.sg]
  rfl
theorem rowOk_bad {l : List Nat} {c : Nat} (hc : c ∈ l) (h1 : c ≠ 35) (h2 : c ≠ 46) : rowOk (.str (S l)) = false := by
  rw [rowOk_S, decide_eq_false (p := ∀ c ∈ l, c = 35 ∨ c = 46), Bool.and_false]
  intro z
  rcases z c hc with q | q
  · exact h1 q
  · exact h2 q
theorem rowOk_len {l : List Nat} (h : l.length = 0 ∨ 120 < l.length) : rowOk (.str (S l)) = false := by
  rw [rowOk_S]
  rcases h with h | h
  · rw [decide_eq_false (by omega : ¬ 1 ≤ l.length)]
    rfl
  · rw [decide_eq_false (by omega : ¬ l.length ≤ 120), Bool.and_false, Bool.false_and]
theorem lenV_S (l : List Nat) : lenV (.str (S l)) = (l.length : Int) := by
  show ((S l).length : Int) = _
  rw [SX.S_len]
theorem picOk_pic {high wide : Nat} {rs : List (List Nat)} (h : PicR high wide rs) : picOk (rs.map rv) = true := by
  unfold picOk
  have a1 : decide (1 ≤ (rs.map rv).length) = true := decide_eq_true (by rw [List.length_map, h.len]; exact h.h0)
  have a2 : decide ((rs.map rv).length ≤ 60) = true := decide_eq_true (by rw [List.length_map, h.len]; exact h.h1)
  have a3 : (rs.map rv).all rowOk = true := List.all_eq_true.mpr fun y hy => by
    obtain ⟨l, hl, rfl⟩ := List.mem_map.mp hy
    exact rowOk_rv (h.row l hl) h.w0 h.w1
  have len : ∀ y ∈ rs.map rv, lenV y = (wide : Int) := fun y hy => by
    obtain ⟨l, hl, rfl⟩ := List.mem_map.mp hy
    unfold rv
    rw [lenV_S, (h.row l hl).len]
  have a4 : ((rs.map rv).all fun y => decide (lenV y = lenV ((rs.map rv).headD .non))) = true := List.all_eq_true.mpr fun y hy => by
    refine decide_eq_true ?_
    rw [len y hy]
    cases e : rs.map rv with
    | nil =>
      rw [e] at hy
      cases hy
    | cons x r =>
      have z := len x (by rw [e]; exact List.mem_cons_self)
      exact z.symm
  rw [a1, a2, a3, a4]
  rfl
/-- one row put in the place of another: no picture -/
theorem picOk_odd {high wide r : Nat} {rs : List (List Nat)} {one : V} (h : PicR high wide rs) (hr : r < high) (b : rowOk one = false ∨ (2 ≤ high ∧ lenV one ≠ (wide : Int))) :
    picOk ((rs.map rv).take r ++ [one] ++ (rs.map rv).drop (r + 1)) = false := by
  cases e : picOk ((rs.map rv).take r ++ [one] ++ (rs.map rv).drop (r + 1)) with
  | false => rfl
  | true =>
    exfalso
    unfold picOk at e
    rw [Bool.and_eq_true, Bool.and_eq_true, Bool.and_eq_true] at e
    obtain ⟨⟨⟨_, _⟩, e3⟩, e4⟩ := e
    have m1 : one ∈ (rs.map rv).take r ++ [one] ++ (rs.map rv).drop (r + 1) := by simp
    rcases b with b | ⟨b1, b2⟩
    · have z := List.all_eq_true.mp e3 one m1
      rw [b] at z
      cases z
    · have len : ∀ y ∈ rs.map rv, lenV y = (wide : Int) := fun y hy => by
        obtain ⟨l, hl, rfl⟩ := List.mem_map.mp hy
        unfold rv
        rw [lenV_S, (h.row l hl).len]
      obtain ⟨y, m2, hy⟩ : ∃ y, y ∈ (rs.map rv).take r ++ [one] ++ (rs.map rv).drop (r + 1) ∧ y ∈ rs.map rv := by
        have hl : (rs.map rv).length = high := by rw [List.length_map, h.len]
        by_cases hr0 : r = 0
        · subst hr0
          have : 1 < (rs.map rv).length := by omega
          refine ⟨(rs.map rv)[1], ?_, List.getElem_mem _⟩
          refine List.mem_append_right _ ?_
          exact List.mem_of_getElem? (i := 0) (by rw [List.getElem?_drop, List.getElem?_eq_getElem this])
        · have : 0 < (rs.map rv).length := by omega
          refine ⟨(rs.map rv)[0], ?_, List.getElem_mem _⟩
          refine List.mem_append_left _ (List.mem_append_left _ ?_)
          exact List.mem_of_getElem? (i := 0) (by rw [List.getElem?_take, if_pos (by omega), List.getElem?_eq_getElem this])
      have z1 := of_decide_eq_true (List.all_eq_true.mp e4 one m1)
      have z2 := of_decide_eq_true (List.all_eq_true.mp e4 y m2)
      exact b2 (z1.trans (z2.symm.trans (len y hy)))
end Dt
namespace Dt
open PySem PySem.Spec PyProof.Rows L2 L2X
open SX (S)
/-! ### refusals -/
/-- the class NoPicture, as the top has made it, at C -/
structure Tn (K : PySem.W.Frag) (mg : Str → Option Value) (C : Addr) : Prop where
  g : mg "NoPicture" = some (.ref C)
  x : PySem.W.excIn K C [.type "ValueError", .type "Exception", .type "BaseException", .type "object"] "ValueError.__new__" = true
  k : PySem.W.keepIn K (.ref C) = true
  b : PySem.W.subIn K (.ref C) (.type "BaseException") = some true
  t : PySem.W.typeIn K (.ref C) = some (.type "type")
abbrev sWant : Stmt := topS 18
theorem scWant : FnScope ["thing"] ["thing"] (defScope sWant) := ⟨rfl, rfl, rfl, by decide +kernel, rfl, by decide +kernel, by decide +kernel⟩
def spWant (K : PySem.W.Frag) (C : Addr) : Sp := fun vs H Q E => ∃ x b, vs = [x] ∧ Asked K H x b ∧ (b = true → ∀ H', Same H H' → Q .non H') ∧ (b = false → ∀ H', Same H H' → E (.ref C) none H')
section
variable {P : Program} {w : World} {K : PySem.W.Frag} {mg : Str → Option Value} {base : Heap} {C : Addr}
theorem ok_want {f fP : Addr} {fd fdP : FuncData} {k : Nat} (F : Fun K "want_picture" "want_picture" sWant f fd) (N : Tn K mg C) (GP : FnOk P w K mg base CX0 (k + 1) fP fdP ["thing"] (spIsPic K)) (mP : mg "is_picture" = some (.ref fP)) (kP : PySem.W.keepIn K (.ref fP) = true) (bP : Binds K fdP ["thing"] []) :
    FnOk P w K mg base (L2.CX P w) (k + 2) f fd ["thing"] (spWant K C) := by
  refine F.okX scWant (fun vs H Q E h => ?_) (fun cdv A outer s H vs Q E hr h => ?_)
  · obtain ⟨x, b, rfl, _⟩ := h
    rfl
  · obtain ⟨x, b, rfl, ask, q1, q2⟩ := h
    refine ⟨_, pss_one (ps_if (pt_not (pt_val (pe_call GP hr (by rfl) mP kP bP .nil pass0 (pa_cons (pv 0) pa_nil)))) (pss_one (ps_raise rfl (takes_of rfl rfl rfl rfl) (pmk_own PySem.F.excBase_ValueError N.x N.g N.k (raises_own N.b N.t) rfl))) pss_nil), ?_⟩
    refine ⟨x, rfl, x, b, rfl, ask, fun H' sm => ⟨_, rfl, ?_⟩⟩
    cases b with
    | true => exact iteF (q1 rfl H' sm)
    | false => exact iteT (q2 rfl H' sm)
end
end Dt
namespace Dt
open PySem PySem.Spec PyProof.Rows L2 L2X
open SX (S)
theorem pss_never {X : Cx} {st : List Stmt} : PSs X st (fun _ _ _ => False) := ⟨fun _ _ _ _ _ _ h => h.elim⟩
theorem pg_never {X : Cx} {tg : Expr} : PG X tg (fun _ _ _ _ => False) := ⟨fun _ _ _ _ _ _ _ _ _ h => h.elim⟩
abbrev sSize : Stmt := topS 19
theorem scSize : FnScope ["picture"] ["picture"] (defScope sSize) := ⟨rfl, rfl, rfl, by decide +kernel, rfl, by decide +kernel, by decide +kernel⟩
/-- size of a picture, or of what is none -/
def spSize (K : PySem.W.Frag) (C : Addr) : Sp := fun vs H Q E => ∃ x, vs = [x] ∧ ((Asked K H x false ∧ ∀ H', Same H H' → E (.ref C) none H') ∨
  ∃ a xs, x = .ref a ∧ SqT K H a xs ∧ (∀ y ∈ xs, Kn K H y) ∧ picOk xs = true ∧ ∀ p H', Same H H' → H p = none → H' p = some (.tup [.int (xs.length : Int), .int (lenV (xs.headD .non))]) → Q (.ref p) H')
theorem Asked.same {K : PySem.W.Frag} {H H' : Hp} {x : V} {b : Bool} (h : Asked K H x b) (s : Same H H') : Asked K H' x b := by
  rcases h with ⟨T, t, ok, ne, e⟩ | ⟨a, xs, e, h1, h2, e2⟩
  · refine .inl ⟨T, ?_, ok, ne, e⟩
    cases t with
    | non => exact .non
    | bl b => exact .bl b
    | int i => exact .int i
    | str x => exact .str x
    | byt b => exact .byt b
    | lst h => exact .lst (s.seq h)
    | tup h => exact .tup (sameT s h)
    | dK h => exact .dK (s _ _ h)
  · exact .inr ⟨a, xs, e, sameT s h1, fun l y hy => (h2 l y hy).same s, e2⟩
section
variable {P : Program} {w : World} {K : PySem.W.Frag} {mg : Str → Option Value} {base : Heap} {C : Addr}
/-- want_picture, and whoever calls it first -/
structure GW (P : Program) (w : World) (K : PySem.W.Frag) (mg : Str → Option Value) (base : Heap) (C : Addr) (k : Nat) : Prop where
  ex : ∃ f fd, FnOk P w K mg base (L2.CX P w) k f fd ["thing"] (spWant K C) ∧ mg "want_picture" = some (.ref f) ∧ PySem.W.keepIn K (.ref f) = true ∧ Binds K fd ["thing"] []
structure GS (P : Program) (w : World) (K : PySem.W.Frag) (mg : Str → Option Value) (base : Heap) (C : Addr) (k : Nat) : Prop where
  ex : ∃ f fd, FnOk P w K mg base (L2.CX P w) k f fd ["picture"] (spSize K C) ∧ mg "size" = some (.ref f) ∧ PySem.W.keepIn K (.ref f) = true ∧ Binds K fd ["picture"] []
theorem ok_size {f : Addr} {fd : FuncData} {k : Nat} (F : Fun K "size" "size" sSize f fd) (X : Tx mg) (G : GW P w K mg base C (k + 1)) : FnOk P w K mg base (L2.CX P w) (k + 2) f fd ["picture"] (spSize K C) := by
  obtain ⟨fW, fdW, GW, mW, kW, bW⟩ := G.ex
  refine F.okX scSize (fun vs H Q E h => ?_) (fun cdv A outer s H vs Q E hr h => ?_)
  · obtain ⟨x, rfl, _⟩ := h
    rfl
  · obtain ⟨x, rfl, h⟩ := h
    refine ⟨_, pss_cons (ps_expr (pe_callS GW hr (by rfl) mW kW bW (fun σ => passAt (takes_of rfl rfl rfl rfl) σ) (pa_cons (pv 0) pa_nil)))
      (pss_one (ps_ret (pe_tup (pa_cons (pe_callB call_len_seq (by rfl) X.len PySem.boot_len (pa_cons (pv 0) pa_nil)) (pa_cons (pe_callB call_len_str (by rfl) X.len PySem.boot_len (pa_cons (pe_ix (r := rIxT K) ix_tup (pv 0) pe_int (fun _ _ => rfl)) pa_nil)) pa_nil))))), ?_⟩
    rcases h with ⟨ask, q⟩ | ⟨a, xs, rfl, hx, kn, ok, q⟩
    · exact ⟨x, rfl, x, false, rfl, ask, (fun e => nomatch e), fun _ H' sm => q H' sm⟩
    · refine ⟨.ref a, rfl, .ref a, true, rfl, .inr ⟨a, xs, rfl, hx, fun _ => kn, ok.symm⟩, fun _ H' sm => ?_, fun e => nomatch e⟩
      have hx' := sameT sm hx
      unfold picOk at ok
      rw [Bool.and_eq_true, Bool.and_eq_true, Bool.and_eq_true] at ok
      obtain ⟨⟨⟨o1, o2⟩, o3⟩, o4⟩ := ok
      cases xs with
      | nil => exact absurd (of_decide_eq_true o1) (by decide)
      | cons x0 r =>
        have hk := List.all_eq_true.mp o3 x0 List.mem_cons_self
        cases x0 with
        | str z =>
          have hz := (kn _ List.mem_cons_self).2 z rfl
          refine ⟨.ref a, rfl, a, _, rfl, .inr hx', .ref a, rfl, a, _, 0, .str z, rfl, rfl, hx', atI_nat (j := 0) rfl, z, rfl, hz, by show 2 ≤ sizeLine; decide, fun p hp => ?_⟩
          exact q p _ (sm.trans (same_upd hp)) (sm.free hp) upd_same
        | _ => cases hk
end
theorem upd_at2 {H : Hp} {p : Addr} {o : HO} : (upd H p o) p = some o := upd_same
theorem kn_str2 {K : PySem.W.Frag} {H : Hp} {z : Str} (h : z.length ≤ sizeLine) : Kn K H (.str z) := ⟨⟨"str", .str z, rfl⟩, fun y e => by cases e; exact h⟩
theorem kn_rows {K : PySem.W.Frag} {H : Hp} {high wide : Nat} {rs : List (List Nat)} (h : PicR high wide rs) : ∀ y ∈ rs.map rv, Kn K H y := by
  intro y hy
  obtain ⟨x, hx, rfl⟩ := List.mem_map.mp hy
  refine kn_str2 ?_
  show x.length ≤ sizeLine
  have := (h.row x hx).len
  have := h.w1
  exact Nat.le_of_lt (small1000 (by omega))
theorem askPic {K : PySem.W.Frag} {H : Hp} {high wide : Nat} {rs : List (List Nat)} {a : Addr} (h : PicR high wide rs) (e : H a = some (.tup (rs.map rv))) : Asked K H (.ref a) true :=
  .inr ⟨a, _, rfl, SqT.of e, fun _ => kn_rows h, (picOk_pic h).symm⟩
theorem picSize {high wide : Nat} {rs : List (List Nat)} (h : PicR high wide rs) : (((rs.map rv).length : Nat) : Int) = (high : Int) ∧ lenV ((rs.map rv).headD .non) = (wide : Int) := by
  refine ⟨by rw [List.length_map, h.len], ?_⟩
  cases rs with
  | nil =>
    have h1 := h.len
    have h2 := h.h0
    simp at h1
    omega
  | cons l r =>
    have e := (h.row l List.mem_cons_self).len
    show lenV (rv l) = _
    unfold rv
    rw [lenV_S, e]
end Dt
/-! zip of two and enumerate, over any of a list, a tuple, a text -/
namespace L2X
open PySem PySem.Spec PyProof.Rows L2
inductive Src
  | lst (a : Addr)
  | tup (a : Addr)
  | txt (z : Str)
def chars (z : Str) : List V := z.cps.toList.map fun c => V.str ⟨#[c]⟩
/-- what stands in it -/
def Src.has (K : PySem.W.Frag) (H : Hp) : Src → List V → Prop
  | .lst a, xs => SqL K H a xs
  | .tup a, xs => SqT K H a xs
  | .txt z, xs => xs = chars z
def Src.val : Src → V
  | .lst a => .ref a
  | .tup a => .ref a
  | .txt z => .str z
/-- its iterator at its i-th item -/
def Src.it (it : Addr) (i : Nat) (h : Heap) : Src → Prop
  | .lst a => h.IsListIter it a i
  | .tup a => h.IsTupleIter it a i
  | .txt z => ∃ t, h.IsStrIter it (strIterType z) z t i
def Src.off (c : Addr) : Src → Prop
  | .lst a => a ≠ c
  | .tup a => a ≠ c
  | .txt _ => True
theorem Src.it_obj {S : Src} {it : Addr} {i : Nat} {h : Heap} (e : S.it it i h) : ∃ o, h.get? it = some o ∧ ∀ v, o.data ≠ .cell v := by
  cases S with
  | lst a =>
    obtain ⟨o, e1, _, d⟩ := e
    exact ⟨o, e1, fun v q => by rw [d] at q; cases q⟩
  | tup a =>
    obtain ⟨o, e1, _, d⟩ := e
    exact ⟨o, e1, fun v q => by rw [d] at q; cases q⟩
  | txt z =>
    obtain ⟨t, o, e1, _, d⟩ := e
    exact ⟨o, e1, fun v q => by rw [d] at q; cases q⟩
theorem Src.it_at {S : Src} {it : Addr} {i : Nat} {h h' : Heap} (e : S.it it i h) (k : ∀ o, h.get? it = some o → h'.get? it = some o) : S.it it i h' := by
  cases S with
  | lst a => exact Heap.IsListIter.at e k
  | tup a => exact Heap.IsTupleIter.at e k
  | txt z =>
    obtain ⟨t, o, e1, e2, d⟩ := e
    exact ⟨t, o, k _ e1, e2, d⟩
section
variable {X : Cx} {pins : List (Addr × Obj)} {σ : L2.St} {H : Hp} {s : Shared}
theorem Src.inj {S : Src} {xs ys : List V} (I : Inv X pins σ H s) (h : S.has X.K H xs) (h' : S.has X.K H ys) : xs = ys := by
  cases S with
  | lst a => exact I.list_inj h h'
  | tup a => exact I.tuple_inj h h'
  | txt z => exact Eq.trans h (Eq.symm h')
/-- what its iterator draws, now -/
theorem Src.draws {S : Src} {xs : List V} {it : Addr} {i : Nat} {A : Around} (I : Inv X pins σ H s) (hh : A.handled = none) (h : S.has X.K H xs) (st : S.it it i s.heap) (off : S.off it) :
    ∃ (fp : List Addr) (P : Nat → Value → Prop) (St : Nat → Heap → Prop), Draws X.prog X.w A it fp xs.length P St ∧ St i s.heap ∧ it ∈ fp ∧ (∀ c, c ≠ it → S.off c → c ∉ fp) ∧ (∀ j v, P j v → ∃ x, xs[j]? = some x ∧ RelV x v) ∧ (∀ j h, St j h → S.it it j h) := by
  cases S with
  | lst a =>
    obtain ⟨its, rv, p, _⟩ := I.list h
    have el : its.toArray.size = xs.length := by rw [rv.length]; simp
    rw [← el]
    refine ⟨[it, a], _, _, Draws.list hh it a off its.toArray, ⟨st, p.isList⟩, by simp, fun c hc ho hm => ?_, fun j v hv => ?_, fun j h e => e.1⟩
    · have e' : c = it ∨ c = a := by simpa using hm
      rcases e' with e' | e'
      · exact hc e'
      · exact ho e'.symm
    · have hv' : its[j]? = some v := by simpa using hv
      have hj : j < xs.length := by
        rw [← el]
        have := (List.getElem?_eq_some_iff.mp hv').1
        simpa using this
      obtain ⟨u, hu, ru⟩ := rv.get (List.getElem?_eq_getElem hj)
      rw [hv'] at hu
      cases hu
      exact ⟨_, List.getElem?_eq_getElem hj, ru⟩
  | tup a =>
    obtain ⟨its, rv, p, _⟩ := I.tuple h
    have el : its.toArray.size = xs.length := by rw [rv.length]; simp
    rw [← el]
    refine ⟨[it, a], _, _, Draws.tuple hh it a off its.toArray, ⟨st, p⟩, by simp, fun c hc ho hm => ?_, fun j v hv => ?_, fun j h e => e.1⟩
    · have e' : c = it ∨ c = a := by simpa using hm
      rcases e' with e' | e'
      · exact hc e'
      · exact ho e'.symm
    · have hv' : its[j]? = some v := by simpa using hv
      have hj : j < xs.length := by
        rw [← el]
        have := (List.getElem?_eq_some_iff.mp hv').1
        simpa using this
      obtain ⟨u, hu, ru⟩ := rv.get (List.getElem?_eq_getElem hj)
      rw [hv'] at hu
      cases hu
      exact ⟨_, List.getElem?_eq_getElem hj, ru⟩
  | txt z =>
    obtain ⟨t, st⟩ := st
    have hx : xs = chars z := h
    have el : z.cps.size = xs.length := by rw [hx]; simp [chars]
    rw [← el]
    refine ⟨[it], _, _, Draws.text hh it z t, st, by simp, fun c hc _ hm => hc (by simpa using hm), fun j v hv => ?_, fun j h e => ⟨t, e⟩⟩
    obtain ⟨c, u, e1, rfl⟩ := hv
    refine ⟨.str ⟨#[c]⟩, ?_, _, rfl⟩
    rw [hx]
    unfold chars
    rw [List.getElem?_map, Array.getElem?_toList, e1]
    rfl
/-- two things at each turn, in new pairs -/
def ItzG (K : PySem.W.Frag) (A B : Src) : It :=
  ⟨fun i H => ∃ (xs ys : List V) (x y : V), A.has K H xs ∧ B.has K H ys ∧ xs[i]? = some x ∧ ys[i]? = some y,
    fun i H v H' => ∃ T x y, v = .ref T ∧ H T = none ∧ H' = upd H T (.tup [x, y]) ∧ (∀ xs, A.has K H xs → xs[i]? = some x) ∧ ∀ ys, B.has K H ys → ys[i]? = some y,
    fun i H => ∃ xs ys : List V, A.has K H xs ∧ B.has K H ys ∧ (xs.length = i ∧ i ≤ ys.length ∨ ys.length = i ∧ i ≤ xs.length)⟩
structure Apart5 (A B : Src) (z TI TO i1 i2 : Addr) : Prop where
  TIz : TI ≠ z
  TOz : TO ≠ z
  i1z : i1 ≠ z
  i2z : i2 ≠ z
  TITO : TI ≠ TO
  TIi1 : TI ≠ i1
  TIi2 : TI ≠ i2
  TOi1 : TO ≠ i1
  TOi2 : TO ≠ i2
  i12 : i1 ≠ i2
  az : A.off z
  aT : A.off TO
  a1 : A.off i1
  a2 : A.off i2
  bz : B.off z
  bT : B.off TO
  b1 : B.off i1
  b2 : B.off i2
theorem turn_zipG {P : Program} {w : World} {K : PySem.W.Frag} {elts : List Expr} {kk : Nat} {tpos : Pos} {A B : Src} {z TI TO i1 i2 : Addr} (D : Apart5 A B z TI TO i1 i2) :
    Turn P w K (.Tuple elts kk tpos) (ItzG K A B) [z, TI, TO, i1, i2] z (fun i h => IsZip h z TI TO .none ∧ IsTupOf2 h TI (.ref i1) (.ref i2) ∧ (∃ x y, IsTupOf2 h TO x y) ∧ A.it i1 i h ∧ B.it i2 i h) where
  mem := by simp
  obj := fun i h st c hc => by
    obtain ⟨hz, hTI, ⟨x, y, hTO⟩, h1, h2⟩ := st
    have e' : c = z ∨ c = TI ∨ c = TO ∨ c = i1 ∨ c = i2 := by simpa using hc
    rcases e' with q | q | q | q | q
    · rw [q]; exact ⟨_, hz, fun v q => nomatch q⟩
    · rw [q]; exact ⟨_, hTI, fun v q => nomatch q⟩
    · rw [q]; exact ⟨_, hTO, fun v q => nomatch q⟩
    · rw [q]; exact Src.it_obj h1
    · rw [q]; exact Src.it_obj h2
  keep := fun i h h' st k => by
    obtain ⟨hz, hTI, ⟨x, y, hTO⟩, h1, h2⟩ := st
    exact ⟨k z (by simp) _ hz, k TI (by simp) _ hTI, ⟨x, y, k TO (by simp) _ hTO⟩, Src.it_at h1 fun o q => k i1 (by simp) o q, Src.it_at h2 fun o q => k i2 (by simp) o q⟩
  item := by
    intro X hP hw hK hc i pins s σ H E I hf st hg
    subst hP hw hK
    obtain ⟨hz, hTI, ⟨x0, y0, hTO⟩, h1, h2⟩ := st
    obtain ⟨xs, ys, x, y, hqx, hqy, hx, hy⟩ := hg
    obtain ⟨f1, P1, S1, D1, s1, m1, o1, p1, t1⟩ := Src.draws (A := X.A.in1) I (I.ok.hd hc) hqx h1 D.a1
    obtain ⟨f2, P2, S2, D2, s2, m2, o2, p2, t2⟩ := Src.draws (A := X.A.in1) I (I.ok.hd hc) hqy h2 D.b2
    have sep : ZipSep2 z TI TO i1 i2 f1 f2 := ⟨D.TIz, D.TOz, D.TITO, D.TIi1, m1, o1 _ D.i1z.symm D.az, o1 _ D.TOi1 D.aT, D.TIi2, m2, o2 _ D.i2z.symm D.bz, o2 _ D.TOi2 D.bT, o2 _ D.i12 D.b1, o1 _ D.i12.symm D.a2⟩
    have hzl : z < s.heap.objs.size := Heap.lt_size hz
    refine wpAny_pyNext_zipD2_item sep D1 D2 hz hTI hTO s1 s2 (List.getElem?_eq_some_iff.mp hx).1 (List.getElem?_eq_some_iff.mp hy).1 fun u u2 h' tk q1 q2 z' TO' h1' h2' hT hsz hk => ?_
    obtain ⟨x', ex, ru⟩ := p1 _ _ q1
    rw [hx] at ex
    cases ex
    obtain ⟨y', ey, ru2⟩ := p2 _ _ q2
    rw [hy] at ey
    cases ey
    refine ⟨_, rfl, wpAny_letOwnedTupleGo_zip (s := { s with heap := h', toks := tk }) z' fun h'' z'' sb => ?_⟩
    have hT2 : h''.get? s.heap.objs.size = some { cls := .type "tuple", data := .seq #[u, u2] } := (sb.2 _ (Nat.ne_of_gt hzl)).trans hT
    have new : ObjOk X.prog X.w (upd H s.heap.objs.size (.tup [x, y])) h'' s.heap.objs.size (.tup [x, y]) :=
      ⟨by show 2 ≤ sizeLine; decide, [u, u2], .cons ru (.cons ru2 .nil), ⟨_, hT2, rfl, _, rfl⟩⟩
    have I1 : Inv X pins σ (upd H s.heap.objs.size (.tup [x, y])) { s with heap := h'', toks := tk } :=
      I.turnedNew (t' := tk) (ch := [z, TI, TO, i1, i2]) (fun c o hb q => (sb.2 c (fun q' => hb (by simp [q']))).trans (hk c o (fun q' => hb (by simp [q'])) (fun q' => hb (by simp [q'])) (fun q' => hb (by simp [q'])) (fun q' => hb (by simp [q'])) q)) hf (Nat.le_refl _) new
    refine ⟨.ref s.heap.objs.size, _, I1, rfl, ⟨_, x, y, rfl, I.hok.fresh (Nat.le_refl _), rfl, fun l hl => by rw [Src.inj I hl hqx]; exact hx, fun l hl => by rw [Src.inj I hl hqy]; exact hy⟩, ⟨z'', ?_, ⟨u, u2, ?_⟩, ?_, ?_⟩, fun c hcm => ?_⟩
    · exact (sb.2 _ D.TIz).trans (hk _ _ D.TIz D.TITO D.TIi1 D.TIi2 hTI)
    · exact (sb.2 _ D.TOz).trans TO'
    · exact Src.it_at (t1 _ _ h1') fun o q => (sb.2 _ D.i1z).trans q
    · exact Src.it_at (t2 _ _ h2') fun o q => (sb.2 _ D.i2z).trans q
    · have hlt : c < s.heap.objs.size := by
        have e' : c = z ∨ c = TI ∨ c = TO ∨ c = i1 ∨ c = i2 := by simpa using hcm
        rcases e' with q | q | q | q | q
        · rw [q]; exact hzl
        · rw [q]; exact Heap.lt_size hTI
        · rw [q]; exact Heap.lt_size hTO
        · rw [q]; obtain ⟨_, e1, _⟩ := Src.it_obj h1; exact Heap.lt_size e1
        · rw [q]; obtain ⟨_, e2, _⟩ := Src.it_obj h2; exact Heap.lt_size e2
      rw [upd_ne (Nat.ne_of_lt hlt)]
      exact (hf c hcm).1
  done := by
    intro X hP hw hK hc i pins s σ H E I hf st hg
    subst hP hw hK
    obtain ⟨hz, hTI, ⟨x0, y0, hTO⟩, h1, h2⟩ := st
    obtain ⟨xs, ys, hqx, hqy, hend⟩ := hg
    obtain ⟨f1, P1, S1, D1, s1, m1, o1, p1, t1⟩ := Src.draws (A := X.A.in1) I (I.ok.hd hc) hqx h1 D.a1
    obtain ⟨f2, P2, S2, D2, s2, m2, o2, p2, t2⟩ := Src.draws (A := X.A.in1) I (I.ok.hd hc) hqy h2 D.b2
    have sep : ZipSep2 z TI TO i1 i2 f1 f2 := ⟨D.TIz, D.TOz, D.TITO, D.TIi1, m1, o1 _ D.i1z.symm D.az, o1 _ D.TOi1 D.aT, D.TIi2, m2, o2 _ D.i2z.symm D.bz, o2 _ D.TOi2 D.bT, o2 _ D.i12 D.b1, o1 _ D.i12.symm D.a2⟩
    exact wpAny_pyNext_zipD2_end sep D1 D2 hz hTI hTO s1 s2 (by omega) (by omega) (by omega) fun h' tk hk => ⟨rfl, I.turnedL (t' := tk) (ch := [z, TI, TO, i1, i2]) (fun c o hb q =>
      hk c o (fun q' => hb (by simp [q'])) (fun q' => hb (by simp [q'])) (fun q' => hb (by simp [q'])) (fun q' => hb (by simp [q'])) q) hf⟩
  self := fun A i s Q E st h => wpAny_pyIter_zip st.1 h
/-- how a source begins -/
theorem Src.begins {S : Src} {xs : List V} {u : Value} (I : Inv X pins σ H s) (h : S.has X.K H xs) (r : RelV S.val u) : ∃ (o : Obj) (Hh : Heap → Prop), Begins u o Hh ∧ Hh s.heap ∧ (∀ (h' : Heap) (it : Addr), h'.get? it = some o → S.it it 0 h') ∧ ∀ c, s.heap.objs.size ≤ c → S.off c := by
  cases S with
  | lst a =>
    cases r
    obtain ⟨its, rv, p, _⟩ := I.list h
    exact ⟨_, _, begins_list a its.toArray, p.isList, fun h' it e => ⟨_, e, rfl, rfl⟩, fun c hc => Nat.ne_of_lt (Nat.lt_of_lt_of_le p.lt hc)⟩
  | tup a =>
    cases r
    obtain ⟨its, rv, p, _⟩ := I.tuple h
    obtain ⟨o, e, _⟩ := id p
    exact ⟨_, _, begins_tuple a its.toArray, p, fun h' it e => ⟨_, e, rfl, rfl⟩, fun c hc => Nat.ne_of_lt (Nat.lt_of_lt_of_le (Heap.lt_size e) hc)⟩
  | txt z =>
    obtain ⟨t, rfl⟩ := r
    exact ⟨_, _, begins_text z t, trivial, fun h' it e => ⟨t, _, e, rfl, rfl⟩, fun _ _ => trivial⟩
theorem ap_ne (N a b : Nat) (h : a ≠ b) : N + a ≠ N + b := by omega
theorem apart5_new {A B : Src} {N : Nat} (f1 : ∀ c, N ≤ c → A.off c) (f2 : ∀ c, N ≤ c → B.off c) : Apart5 A B (N + 4) (N + 2) (N + 3) N (N + 1) :=
  ⟨ap_ne N 2 4 (by decide), ap_ne N 3 4 (by decide), ap_ne N 0 4 (by decide), ap_ne N 1 4 (by decide), ap_ne N 2 3 (by decide), ap_ne N 2 0 (by decide), ap_ne N 2 1 (by decide), ap_ne N 3 0 (by decide), ap_ne N 3 1 (by decide), ap_ne N 0 1 (by decide),
    f1 _ (Nat.le_add_right _ _), f1 _ (Nat.le_add_right _ _), f1 _ (Nat.le_refl _), f1 _ (Nat.le_add_right _ _), f2 _ (Nat.le_add_right _ _), f2 _ (Nat.le_add_right _ _), f2 _ (Nat.le_refl _), f2 _ (Nat.le_add_right _ _)⟩
def iZipG (K : PySem.W.Frag) (ta : TA) : TI := fun σ H R => ta σ H fun vs H1 => ∃ (A B : Src) (xs ys : List V), vs = [A.val, B.val] ∧ A.has K H1 xs ∧ B.has K H1 ys ∧ R (ItzG K A B) H1
theorem pi_zipG {X : Cx} {e e2 : Expr} {ta : TA} {p pos tpos : Pos} {elts : List Expr} {kk : Nat} (hg : Gl X "zip") (hm : X.mg "zip" = none) (ha : PA X [e, e2] ta)
    (hs : starEach [e, e2] X.env = (false, eval e X.env) :: starEach [e2] X.env := by rfl) (hpl : (backTo pos (starEach [e2] X.env)).any (·.1) = false := by rfl) :
    PI X (.Tuple elts kk tpos) (.Call (.Name "zip" p) [e, e2] [] pos) (iZipG X.K ta) := by
  refine ⟨fun pins s σ H R I h => ?_⟩
  refine Call_ (ld_blt I hg hm PyProof.Rows.boot_zip (PyProof.Rows.callWith_type1 (thn (ha.run pos pins s σ H _ I h) fun us s1 ⟨vs, H1, I1, r1, q1⟩ => ?_) hs hpl))
  obtain ⟨A, B, xs, ys, ex, ha1, hb1, q⟩ := q1
  subst ex
  cases r1 with
  | cons r rr =>
    cases rr with
    | cons r' rr =>
      cases rr
      obtain ⟨o1, G1, B1, g1, n1, f1⟩ := Src.begins I1 ha1 r
      obtain ⟨o2, G2, B2, g2, n2, f2⟩ := Src.begins I1 hb1 r'
      refine zip_begins2 B1 B2 g1 g2 fun h' hz hTI hTO e1 e2 hsz hk => wpAny_pyIter_zip hz ?_
      have I2 : Inv X pins σ H1 { s1 with heap := h' } := I1.kept (t' := s1.toks) hk
      have ap : Apart5 A B (s1.heap.objs.size + 4) (s1.heap.objs.size + 2) (s1.heap.objs.size + 3) s1.heap.objs.size (s1.heap.objs.size + 1) :=
        apart5_new f1 f2
      refine ⟨s1.heap.objs.size + 4, [s1.heap.objs.size + 4, s1.heap.objs.size + 2, s1.heap.objs.size + 3, s1.heap.objs.size, s1.heap.objs.size + 1], _, _, H1, rfl, I2, turn_zipG ap, ⟨hz, hTI, ⟨_, _, hTO⟩, n1 _ _ e1, n2 _ _ e2⟩, fun c hcm => ?_, q⟩
      have e' : c = s1.heap.objs.size + 4 ∨ c = s1.heap.objs.size + 2 ∨ c = s1.heap.objs.size + 3 ∨ c = s1.heap.objs.size ∨ c = s1.heap.objs.size + 1 := by simpa using hcm
      have hle : s1.heap.objs.size ≤ c := by
        rcases e' with z | z | z | z | z
        · rw [z]; exact Nat.le_add_right _ _
        · rw [z]; exact Nat.le_add_right _ _
        · rw [z]; exact Nat.le_add_right _ _
        · rw [z]; exact Nat.le_refl _
        · rw [z]; exact Nat.le_add_right _ _
      exact I1.fpOk hle (I1.hok.fresh hle)
/-! ### enumerate -/
def IteG (K : PySem.W.Frag) (A : Src) : It :=
  ⟨fun i H => ∃ (xs : List V) (x : V), A.has K H xs ∧ xs[i]? = some x, fun i H v H' => ∃ T x, v = .ref T ∧ H T = none ∧ H' = upd H T (.tup [.int (i : Nat), x]) ∧ ∀ xs, A.has K H xs → xs[i]? = some x, fun i H => ∃ xs : List V, A.has K H xs ∧ xs.length = i⟩
theorem turn_enumG {P : Program} {w : World} {K : PySem.W.Frag} {elts : List Expr} {kk : Nat} {tpos : Pos} {A : Src} {e it : Addr} (hne : e ≠ it) (oe : A.off e) (oi : A.off it) :
    Turn P w K (.Tuple elts kk tpos) (IteG K A) [e, it] e (fun i h => (∃ old, IsEnum h e it ((i : Nat) : Int) old) ∧ A.it it i h) where
  mem := by simp
  obj := fun i h st b hb => by
    obtain ⟨⟨old, he⟩, hi⟩ := st
    have e' : b = e ∨ b = it := by simpa using hb
    rcases e' with z | z
    · rw [z]; exact ⟨_, he, fun v q => nomatch q⟩
    · rw [z]; exact Src.it_obj hi
  keep := fun i h h' st k => let ⟨⟨old, he⟩, hi⟩ := st; ⟨⟨old, k e (by simp) _ he⟩, Src.it_at hi fun o q => k it (by simp) o q⟩
  item := by
    intro X hP hw hK hc i pins s σ H E I hf st hg
    subst hP hw hK
    obtain ⟨⟨old, he⟩, hit⟩ := st
    obtain ⟨xs, x, hq, hx⟩ := hg
    obtain ⟨f1, P1, S1, D1, s1, m1, o1, p1, t1⟩ := Src.draws (A := X.A.in1) I (I.ok.hd hc) hq hit oi
    have hel : e < s.heap.objs.size := Heap.lt_size he
    have hil : it < s.heap.objs.size := by obtain ⟨_, q, _⟩ := Src.it_obj hit; exact Heap.lt_size q
    refine wpAny_pyNext_enum_itemD D1 he s1 (List.getElem?_eq_some_iff.mp hx).1 hne (o1 _ hne oe) fun u h' tk q1 ho hit' hT hsz hk => ?_
    obtain ⟨x', ex, ru⟩ := p1 _ _ q1
    rw [hx] at ex
    cases ex
    refine ⟨_, rfl, wpAny_letOwnedTupleGo_enum (s := { s with heap := h', toks := tk + 1 }) ho fun h'' he' sb => ?_⟩
    have hT2 : h''.get? s.heap.objs.size = some { cls := .type "tuple", data := .seq #[.int i tk, u] } := (sb.2 _ (Nat.ne_of_gt hel)).trans hT
    have new : ObjOk X.prog X.w (upd H s.heap.objs.size (.tup [.int (i : Nat), x])) h'' s.heap.objs.size (.tup [.int (i : Nat), x]) :=
      ⟨by show 2 ≤ sizeLine; decide, [.int i tk, u], .cons ⟨_, rfl⟩ (.cons ru .nil), ⟨_, hT2, rfl, _, rfl⟩⟩
    have I1 : Inv X pins σ (upd H s.heap.objs.size (.tup [.int (i : Nat), x])) { s with heap := h'', toks := tk + 1 } :=
      I.turnedNew (t' := tk + 1) (ch := [e, it]) (fun b ob hb q => (sb.2 b (fun z => hb (by simp [z]))).trans (hk b ob (fun z => hb (by simp [z])) (fun z => hb (by simp [z])) q)) hf (Nat.le_refl _) new
    refine ⟨.ref s.heap.objs.size, _, I1, rfl, ⟨_, x, rfl, I.hok.fresh (Nat.le_refl _), rfl, fun ys hy => by rw [Src.inj I hy hq]; exact hx⟩, ⟨⟨u, ?_⟩, Src.it_at (t1 _ _ hit') fun o q => (sb.2 it (Ne.symm hne)).trans q⟩, fun b hb => ?_⟩
    · have e1 : ((i + 1 : Nat) : Int) = (i : Int) + 1 := by omega
      rw [e1]; exact he'
    · have hb' : b < s.heap.objs.size := by
        have e' : b = e ∨ b = it := by simpa using hb
        rcases e' with z | z
        · rw [z]; exact hel
        · rw [z]; exact hil
      rw [upd_ne (Nat.ne_of_lt hb')]
      exact (hf b hb).1
  done := by
    intro X hP hw hK hc i pins s σ H E I hf st hg
    subst hP hw hK
    obtain ⟨⟨old, he⟩, hit⟩ := st
    obtain ⟨xs, hq, hx⟩ := hg
    subst hx
    obtain ⟨f1, P1, S1, D1, s1, m1, o1, p1, t1⟩ := Src.draws (A := X.A.in1) I (I.ok.hd hc) hq hit oi
    obtain ⟨f0, f1', f2, f3, f4, f5⟩ := hf it (by simp)
    exact wpAny_pyNext_enum_endD D1 he s1 fun h' eb => ⟨rfl, I.turned (t' := s.toks) (fun b o hb q => eb b o hb q) f0 f1' f3 f4 f5⟩
  self := fun A i s Q E st h => let ⟨⟨_, he⟩, _⟩ := st; wpAny_pyIter_enum he h
theorem meets_enumerate_new1B {v : Value} {o : Obj} {H : Heap → Prop} (B : Begins v o H) :
    Meets (Builtin.«enumerate.__new__» ⟨[.type "enumerate", v], []⟩) (fun _ R s => H s.heap ∧
      R (.ok (.ret (.ref (s.heap.push o).objs.size))) { s with heap := (s.heap.push o).push { cls := .type "enumerate", data := .fields #[.none, .bool false, .ref s.heap.objs.size, rawInt 0, .none, .none] } }) :=
  .of_wp fun prog w A R s h => by
    obtain ⟨hp, g, d, tk, os⟩ := s; obtain ⟨h1, h⟩ := h
    have hsub := sub_enumerate
    have q1 : ∀ {A' : Around} {E : Value → Shared → Prop} {Q : Value → Shared → Prop}, Q (.ref hp.objs.size) ⟨hp.push o, g, d, tk, os⟩ → wpAny (model prog w) A' (pyIter v) Q E ⟨hp, g, d, tk, os⟩ :=
      fun q => B.iter prog w _ _ ⟨hp, g, d, tk, os⟩ _ h1 q
    wp_walk
    refine wpAny_stack_any fun st => wpAny_pure ?_
    split
    · rename_i c _ _ _ _ _
      cases (c == Value.type "enumerate")
      · wp_walk using q1
        exact ⟨_, rfl, h⟩
      · wp_walk using q1
        exact ⟨_, rfl, h⟩
    · wp_walk using q1
      exact ⟨_, rfl, h⟩
theorem enum_begins1 {prog : Program} {w : World} {A : Around} {E : Value → Shared → Prop} {s : Shared} {v : Value} {o : Obj} {H : Heap → Prop} {Q : Value → Shared → Prop} (B : Begins v o H) (h1 : H s.heap)
    (h : ∀ h', IsEnum h' (s.heap.objs.size + 1) s.heap.objs.size 0 .none → h'.get? s.heap.objs.size = some o → h'.objs.size = s.heap.objs.size + 2 →
      (∀ b o, s.heap.get? b = some o → h'.get? b = some o) → Q (.ref (s.heap.objs.size + 1)) { s with heap := h' }) :
    wpAny (model prog w) A (call (.type "enumerate") [v]) Q E s := by
  refine callType_new F.called_enumerate (by decide) (F.typeCall_enumerate_1 _) (F.newCall_enumerate_1 _) (fun obj => F.args_object_init_2 obj _) F.entry_enumerate_new
    (meets_enumerate_new1B B) ⟨h1, ?_⟩
  have hz : (s.heap.push o).objs.size = s.heap.objs.size + 1 := Heap.size_push ..
  show _ ∧ _
  rw [hz]
  have he : IsEnum ((s.heap.push o).push { cls := .type "enumerate", data := .fields #[.none, .bool false, .ref s.heap.objs.size, rawInt 0, .none, .none] }) (s.heap.objs.size + 1) s.heap.objs.size 0 .none := by
    have := Heap.get?_push_size (s.heap.push o) (o := { cls := .type "enumerate", data := .fields #[.none, .bool false, .ref s.heap.objs.size, rawInt 0, .none, .none] }) rfl
    rw [hz] at this
    exact this
  exact ⟨⟨_, he, rfl⟩, h _ he (Heap.get?_push_of_some _ (Heap.get?_push_size _ B.free)) (by rw [Heap.size_push, hz]) fun b o x => Heap.get?_push_of_some _ (Heap.get?_push_of_some _ x)⟩
def iEnumG (K : PySem.W.Frag) (ta : TA) : TI := fun σ H R => ta σ H fun vs H1 => ∃ (A : Src) (xs : List V), vs = [A.val] ∧ A.has K H1 xs ∧ R (IteG K A) H1
theorem pi_enumG {X : Cx} {e : Expr} {ta : TA} {p pos tpos : Pos} {elts : List Expr} {kk : Nat} (hg : Gl X "enumerate") (hm : X.mg "enumerate" = none) (ha : PA X [e] ta) (hs : starEach [e] X.env = [(false, eval e X.env)] := by rfl) :
    PI X (.Tuple elts kk tpos) (.Call (.Name "enumerate" p) [e] [] pos) (iEnumG X.K ta) := by
  refine ⟨fun pins s σ H R I h => ?_⟩
  refine Call_ (ld_blt I hg hm boot_enumerate (PyProof.Rows.callWith_type1 (thn (ha.run pos pins s σ H _ I h) fun us s1 ⟨vs, H1, I1, r1, q1⟩ => ?_) hs rfl))
  obtain ⟨A, xs, ex, hq, q⟩ := q1
  subst ex
  cases r1 with
  | cons r rr =>
    cases rr
    obtain ⟨o1, G1, B1, g1, n1, f1⟩ := Src.begins I1 hq r
    refine enum_begins1 B1 g1 fun h' he hit hsz hk => wpAny_pyIter_enum he ?_
    have I2 : Inv X pins σ H1 { s1 with heap := h' } := I1.kept (t' := s1.toks) hk
    refine ⟨s1.heap.objs.size + 1, [s1.heap.objs.size + 1, s1.heap.objs.size], _, _, H1, rfl, I2, turn_enumG (Nat.succ_ne_self _) (f1 _ (Nat.le_add_right _ _)) (f1 _ (Nat.le_refl _)), ⟨⟨.none, he⟩, n1 _ _ hit⟩, fun b hb => ?_, q⟩
    have e' : b = s1.heap.objs.size + 1 ∨ b = s1.heap.objs.size := by simpa using hb
    have hle : s1.heap.objs.size ≤ b := by
      rcases e' with z | z
      · rw [z]; exact Nat.le_add_right _ _
      · rw [z]; exact Nat.le_refl _
    exact I1.fpOk hle (I1.hok.fresh hle)
end
end L2X
/-! comprehensions and loops over zip and enumerate of anything -/
namespace L2X
open PySem PySem.Spec PyProof.Rows L2
theorem lc_zipG {K : PySem.W.Frag} {A B : Src} {xs ys : List V} {g : TG} {tt : TT} {te : TE} {vs : List Nat} {σ : L2.St} {H1 : Hp} {D : Addr} {Qd : Hp → Prop} (hn : xs.length = ys.length) (Pv : Nat → Hp → Prop) (h0 : Pv 0 (upd H1 D (.lst []))) (hl : ∀ i H, i ≤ xs.length → Pv i H → A.has K H xs ∧ B.has K H ys)
    (hs : ∀ i x y H T, xs[i]? = some x → ys[i]? = some y → Pv i H → H T = none → g (.ref T) (wipe σ vs) (upd H T (.tup [x, y])) fun σ2 H2 => wipe σ2 vs = wipe σ vs ∧ tt σ2 H2 fun b H3 =>
      if b = true then te σ2 H3 fun z H4 => ∃ acc, H4 D = some (.lst acc) ∧ acc.length < sizeLine ∧ Pv (i + 1) (upd H4 D (.lst (acc ++ [z]))) else Pv (i + 1) H3) (hd : ∀ H, Pv xs.length H → Qd H) :
    ∃ W : Nat → Nat → Hp → Prop, (∃ m, W 0 m (upd H1 D (.lst []))) ∧ ∀ i m H, W i m H →
      ((ItzG K A B).stop i H ∧ Qd H) ∨ ((ItzG K A B).go i H ∧ ∃ Nx : Hp → Prop, (∀ H', Nx H' → ∃ m', m' < m ∧ W (i + 1) m' H') ∧ ∀ x H', (ItzG K A B).yld i H x H' → g x (wipe σ vs) H' fun σ2 H2 => wipe σ2 vs = wipe σ vs ∧ tt σ2 H2 fun b H3 =>
        if b = true then te σ2 H3 fun y H4 => ∃ acc, H4 D = some (.lst acc) ∧ acc.length < sizeLine ∧ Nx (upd H4 D (.lst (acc ++ [y]))) else Nx H3) := by
  refine ⟨fun i m H => m = xs.length - i ∧ i ≤ xs.length ∧ Pv i H, ⟨xs.length, by simp, Nat.zero_le _, h0⟩, ?_⟩
  rintro i m H ⟨rfl, hi, p⟩
  obtain ⟨qx, qy⟩ := hl i H hi p
  by_cases hlt : i < xs.length
  · have hlt2 : i < ys.length := by omega
    have ex : xs[i]? = some xs[i] := List.getElem?_eq_getElem hlt
    have ey : ys[i]? = some ys[i] := List.getElem?_eq_getElem hlt2
    refine .inr ⟨⟨xs, ys, _, _, qx, qy, ex, ey⟩, Pv (i + 1), fun H' p' => ⟨xs.length - (i + 1), by omega, rfl, hlt, p'⟩, fun x H' y => ?_⟩
    obtain ⟨T, u, v, rfl, nT, rfl, z1, z2⟩ := y
    exact hs i u v H T (z1 xs qx) (z2 ys qy) p nT
  · have e : i = xs.length := by omega
    subst e
    exact .inl ⟨⟨xs, ys, qx, qy, .inl ⟨rfl, by omega⟩⟩, hd H p⟩
theorem lc_enumG {K : PySem.W.Frag} {A : Src} {xs : List V} {g : TG} {tt : TT} {te : TE} {vs : List Nat} {σ : L2.St} {H1 : Hp} {D : Addr} {Qd : Hp → Prop} (Pv : Nat → Hp → Prop) (h0 : Pv 0 (upd H1 D (.lst []))) (hl : ∀ i H, i ≤ xs.length → Pv i H → A.has K H xs)
    (hs : ∀ i x H T, xs[i]? = some x → Pv i H → H T = none → g (.ref T) (wipe σ vs) (upd H T (.tup [.int (i : Nat), x])) fun σ2 H2 => wipe σ2 vs = wipe σ vs ∧ tt σ2 H2 fun b H3 =>
      if b = true then te σ2 H3 fun z H4 => ∃ acc, H4 D = some (.lst acc) ∧ acc.length < sizeLine ∧ Pv (i + 1) (upd H4 D (.lst (acc ++ [z]))) else Pv (i + 1) H3) (hd : ∀ H, Pv xs.length H → Qd H) :
    ∃ W : Nat → Nat → Hp → Prop, (∃ m, W 0 m (upd H1 D (.lst []))) ∧ ∀ i m H, W i m H →
      ((IteG K A).stop i H ∧ Qd H) ∨ ((IteG K A).go i H ∧ ∃ Nx : Hp → Prop, (∀ H', Nx H' → ∃ m', m' < m ∧ W (i + 1) m' H') ∧ ∀ x H', (IteG K A).yld i H x H' → g x (wipe σ vs) H' fun σ2 H2 => wipe σ2 vs = wipe σ vs ∧ tt σ2 H2 fun b H3 =>
        if b = true then te σ2 H3 fun y H4 => ∃ acc, H4 D = some (.lst acc) ∧ acc.length < sizeLine ∧ Nx (upd H4 D (.lst (acc ++ [y]))) else Nx H3) := by
  refine ⟨fun i m H => m = xs.length - i ∧ i ≤ xs.length ∧ Pv i H, ⟨xs.length, by simp, Nat.zero_le _, h0⟩, ?_⟩
  rintro i m H ⟨rfl, hi, p⟩
  have qx := hl i H hi p
  by_cases hlt : i < xs.length
  · have ex : xs[i]? = some xs[i] := List.getElem?_eq_getElem hlt
    refine .inr ⟨⟨xs, _, qx, ex⟩, Pv (i + 1), fun H' p' => ⟨xs.length - (i + 1), by omega, rfl, hlt, p'⟩, fun x H' y => ?_⟩
    obtain ⟨T, u, rfl, nT, rfl, z1⟩ := y
    exact hs i u H T (z1 xs qx) p nT
  · have e : i = xs.length := by omega
    subst e
    exact .inl ⟨⟨xs, qx, rfl⟩, hd H p⟩
end L2X
namespace L2X
open PySem PySem.Spec PyProof.Rows L2
theorem eqAt_ty {A : Around} {s : Shared} {a b : String} (ha : tyOk a = true) (hb : tyOk b = true) : SeqAt.EqAt A s (.type a) (.type b) (decide (a = b)) := fun prog w E Q h => by
  unfold eqBool
  refine wpAny_holding ?_
  by_cases e : a = b
  · subst e
    rw [decide_eq_true rfl] at h
    refine wpAny_ite_split (fun _ => ?_) (fun n => absurd (beq_self_eq_true _) n)
    exact wpAny_pure (M := model prog w) (E := E) h
  · rw [decide_eq_false e] at h
    refine wpAny_ite_split (fun q => ?_) (fun _ => ?_)
    · rw [ty_ne e] at q
      cases q
    · have z : wpAny (model prog w) A (compareOp .Eq (.type a) (.type b)) (fun v s' => v = .bool false ∧ s' = s) E s := TypeEq.eq_type_other (tyOk_is ha) (tyOk_is hb) (ty_ne e) ⟨rfl, rfl⟩
      exact wpAny_bind (wpAny_mono z (fun v s' q => by
        obtain ⟨rfl, rfl⟩ := q
        exact wpAny_truthy_bool h) fun _ _ x => x)
def tyIs (a : String) : Value → Bool
  | .type T => decide (T = a)
  | _ => false
def rInTy (K : PySem.W.Frag) : R2 := fun x y H Q => ∃ (a : String) (p : Addr) (ts : List String), x = .ty a ∧ y = .ref p ∧ SqT K H p (ts.map V.ty) ∧ tyOk a = true ∧ ts.all tyOk = true ∧ Q (.bl (ts.any fun t => decide (t = a))) H
theorem vals_tys : ∀ {ts : List String} {us : List Value}, Vals (ts.map V.ty) us → us = ts.map Value.type
  | [], _, .nil => rfl
  | t :: ts, _, .cons r rr => by
    cases (show _ = Value.type t from r)
    rw [vals_tys rr]
    rfl
theorem op_in_ty {X : Cx} : OpR X (compareOp .In) (rInTy X.K) := by
  intro pins s σ H x y v u Q I rx ry h
  obtain ⟨a, p, ts, rfl, rfl, hq, ha, hts, q⟩ := h
  cases ry
  cases (show v = Value.type a from rx)
  obtain ⟨its, r, pl, hz⟩ := I.tuple hq
  have e := vals_tys r
  subst e
  refine SeqAt.in_tupleAt (tyIs a) pl (fun w hw => ?_) ⟨.bl _, H, I, rfl, ?_⟩
  · obtain ⟨t, ht, rfl⟩ : ∃ t, t ∈ ts ∧ w = Value.type t := by
      obtain ⟨t, ht, e⟩ := List.mem_map.mp (show w ∈ ts.map Value.type by simpa using hw)
      exact ⟨t, ht, e.symm⟩
    exact eqAt_ty (List.all_eq_true.mp hts t ht) ha
  · have e : (ts.map Value.type).toArray.any (tyIs a) = ts.any fun t => decide (t = a) := by
      simp [List.any_map]
      rfl
    rw [e]
    exact q
end L2X
namespace Dt
open PySem PySem.Spec PyProof.Rows L2 L2X
/-! ### kinds -/
def isInt : V → Bool
  | .int _ => true
  | _ => false
theorem isInt_ty {K : PySem.W.Frag} {H : Hp} {x : V} {T : String} (t : TyB K H x T) : decide (T = "int") = isInt x := by
  cases t <;> rfl
def betw : V → Int → Int → Bool
  | .int i, lo, hi => decide (lo ≤ i) && decide (i ≤ hi)
  | _, _, _ => false
theorem betw_int (i lo hi : Int) : betw (.int i) lo hi = (decide (lo ≤ i) && decide (i ≤ hi)) := rfl
theorem betw_no {x : V} {lo hi : Int} (h : isInt x = false) : betw x lo hi = false := by
  cases x with
  | int i => cases h
  | _ => rfl
/-- a thing of a known kind -/
def Kt (K : PySem.W.Frag) (H : Hp) (x : V) : Prop := ∃ T, TyB K H x T ∧ tyOk T = true
abbrev sIsNum : Stmt := topS 8
theorem scIsNum : FnScope ["thing"] ["thing"] (defScope sIsNum) := ⟨rfl, rfl, rfl, by decide +kernel, rfl, by decide +kernel, by decide +kernel⟩
def spIsNum (K : PySem.W.Frag) : Sp := fun vs H Q _ => ∃ x, vs = [x] ∧ Kt K H x ∧ Q (.bl (isInt x)) H
abbrev sBetw : Stmt := topS 9
theorem scBetw : FnScope ["thing", "least", "most"] ["thing", "least", "most"] (defScope sBetw) := ⟨rfl, rfl, rfl, by decide +kernel, rfl, by decide +kernel, by decide +kernel⟩
def spBetw (K : PySem.W.Frag) : Sp := fun vs H Q _ => ∃ x lo hi, vs = [x, .int lo, .int hi] ∧ Kt K H x ∧ Q (.bl (betw x lo hi)) H
abbrev sIsList : Stmt := topS 11
theorem scIsList : FnScope ["thing"] ["thing"] (defScope sIsList) := ⟨rfl, rfl, rfl, by decide +kernel, rfl, by decide +kernel, by decide +kernel⟩
def spIsList (K : PySem.W.Frag) : Sp := fun vs H Q _ => ∃ x T, vs = [x] ∧ TyB K H x T ∧ tyOk T = true ∧ ∀ H', Same H H' → Q (.bl (decide ("list" = T) || decide ("tuple" = T))) H'
section
variable {P : Program} {w : World} {K : PySem.W.Frag} {mg : Str → Option Value} {base : Heap}
theorem ok_isNum {f : Addr} {fd : FuncData} {k : Nat} (F : Fun K "is_number" "is_number" sIsNum f fd) (T : Tp mg) (X : Tx mg) : FnOk P w K mg base CX0 (k + 1) f fd ["thing"] (spIsNum K) := by
  refine F.ok scIsNum (fun vs H Q E h => ?_) (fun cdv A outer s H vs Q E hr h => ?_)
  · obtain ⟨x, rfl, _⟩ := h
    rfl
  · obtain ⟨x, rfl, ⟨Ty, ht, ok⟩, q⟩ := h
    refine ⟨_, pss_one (ps_ret (pe_cmpR op_eq_ty (pe_callTy call_type1 (by rfl) T.typ (by decide +kernel) (pa_cons (pv 0) pa_nil)) (pe_bltn (v := .ty "int") (u := .type "int") (by rfl) X.int (by decide +kernel) rfl) (nomark _))), ?_⟩
    refine ⟨x, rfl, x, Ty, rfl, ht, Ty, "int", rfl, rfl, ok, rfl, ?_⟩
    have e : id (decide (Ty = "int")) = isInt x := isInt_ty ht
    rw [e]
    exact q
theorem ok_betw {f fN : Addr} {fd fdN : FuncData} {k : Nat} (F : Fun K "is_between" "is_between" sBetw f fd) (GN : FnOk P w K mg base CX0 (k + 1) fN fdN ["thing"] (spIsNum K)) (mN : mg "is_number" = some (.ref fN)) (kN : PySem.W.keepIn K (.ref fN) = true) (bN : Binds K fdN ["thing"] []) : FnOk P w K mg base CX0 (k + 2) f fd ["thing", "least", "most"] (spBetw K) := by
  refine F.ok scBetw (fun vs H Q E h => ?_) (fun cdv A outer s H vs Q E hr h => ?_)
  · obtain ⟨x, lo, hi, rfl, _⟩ := h
    rfl
  · obtain ⟨x, lo, hi, rfl, kt, q⟩ := h
    refine ⟨_, pss_one (ps_ret (pe_and (pe_call GN hr (by rfl) mN kN bN .nil pass0 (pa_cons (pv 0) pa_nil)) (pe_one (pe_chain op_le op_le (pv 1) (pv 0) (pv 2))))), ?_⟩
    refine ⟨x, rfl, x, rfl, kt, _, rfl, ?_⟩
    cases x with
    | int i =>
      refine iteT ⟨.int lo, rfl, .int i, rfl, lo, i, rfl, rfl, _, rfl, ite2 (fun e => ?_) (fun e => ?_)⟩
      · refine ⟨.int hi, rfl, i, hi, rfl, rfl, ?_⟩
        rw [betw_int, e, Bool.true_and] at q
        exact q
      · rw [betw_int, Bool.eq_false_iff.mpr e, Bool.false_and] at q
        exact q
    | _ => exact iteF q
theorem ok_isList {f : Addr} {fd : FuncData} {k : Nat} (F : Fun K "is_list" "is_list" sIsList f fd) (T : Tp mg) (X : Tx mg) : FnOk P w K mg base CX0 (k + 1) f fd ["thing"] (spIsList K) := by
  refine F.ok scIsList (fun vs H Q E h => ?_) (fun cdv A outer s H vs Q E hr h => ?_)
  · obtain ⟨x, Ty, rfl, _⟩ := h
    rfl
  · obtain ⟨x, Ty, rfl, ht, ok, q⟩ := h
    refine ⟨_, pss_one (ps_ret (pe_cmpR op_in_ty (pe_callTy call_type1 (by rfl) T.typ (by decide +kernel) (pa_cons (pv 0) pa_nil)) (pe_tup (pa_cons (pe_bltn (v := .ty "list") (u := .type "list") (by rfl) X.list (by decide +kernel) rfl) (pa_cons (pe_bltn (v := .ty "tuple") (u := .type "tuple") (by rfl) X.tuple (by decide +kernel) rfl) pa_nil))) (by with_unfolding_all rfl))), ?_⟩
    refine ⟨x, rfl, x, Ty, rfl, ht, by show 2 ≤ sizeLine; decide, fun p hp => ⟨Ty, p, ["list", "tuple"], rfl, rfl, SqT.of upd_same, ok, rfl, ?_⟩⟩
    have e : (["list", "tuple"].any fun t => decide (t = Ty)) = (decide ("list" = Ty) || decide ("tuple" = Ty)) := by simp
    rw [e]
    exact q _ (same_upd hp)
end
/-! ### is_tuple -/
abbrev sIsTup : Stmt := topS 12
theorem scIsTup : FnScope ["thing", "many"] ["thing", "many"] (defScope sIsTup) := ⟨rfl, rfl, rfl, by decide +kernel, rfl, by decide +kernel, by decide +kernel⟩
def spIsTup (K : PySem.W.Frag) : Sp := fun vs H Q _ => ∃ x n, vs = [x, .int n] ∧ ((∃ T, TyB K H x T ∧ tyOk T = true ∧ T ≠ "tuple" ∧ Q (.bl false) H) ∨ ∃ a xs, x = .ref a ∧ SqT K H a xs ∧ Q (.bl (decide ((xs.length : Int) = n))) H)
section
variable {P : Program} {w : World} {K : PySem.W.Frag} {mg : Str → Option Value} {base : Heap}
theorem ok_isTup {f : Addr} {fd : FuncData} {k : Nat} (F : Fun K "is_tuple" "is_tuple" sIsTup f fd) (T : Tp mg) (X : Tx mg) : FnOk P w K mg base CX0 (k + 1) f fd ["thing", "many"] (spIsTup K) := by
  refine F.ok scIsTup (fun vs H Q E h => ?_) (fun cdv A outer s H vs Q E hr h => ?_)
  · obtain ⟨x, n, rfl, _⟩ := h
    rfl
  · obtain ⟨x, n, rfl, h⟩ := h
    refine ⟨_, pss_one (ps_ret (pe_and (pe_cmpR op_eq_ty (pe_callTy call_type1 (by rfl) T.typ (by decide +kernel) (pa_cons (pv 0) pa_nil)) (pe_bltn (v := .ty "tuple") (u := .type "tuple") (by rfl) X.tuple (by decide +kernel) rfl) (nomark _)) (pe_one (pe_cmpR op_eq (pe_callB call_len_seq (by rfl) X.len PySem.boot_len (pa_cons (pv 0) pa_nil)) (pv 1) (nomark _))))), ?_⟩
    rcases h with ⟨Ty, ht, ok, ne, q⟩ | ⟨a, xs, rfl, hx, q⟩
    · refine ⟨x, rfl, x, Ty, rfl, ht, Ty, "tuple", rfl, rfl, ok, rfl, _, rfl, iteE (decide_eq_false ne) q⟩
    · refine ⟨.ref a, rfl, .ref a, "tuple", rfl, .tup hx, "tuple", "tuple", rfl, rfl, rfl, rfl, _, rfl, iteY (by decide) ?_⟩
      refine ⟨.ref a, rfl, a, xs, rfl, .inr hx, .int n, rfl, rfl, ?_⟩
      have e : decide (V.int (xs.length : Int) = V.int n) = decide ((xs.length : Int) = n) := Bool.eq_iff_iff.mpr ⟨fun h => decide_eq_true (V.int.inj (of_decide_eq_true h)), fun h => decide_eq_true (congrArg V.int (of_decide_eq_true h))⟩
      rw [e]
      exact q
end
end Dt
/-! what many laws share -/
namespace L2X
open PySem PySem.Spec PyProof.Rows L2
theorem PI.or {X : Cx} {tg it : Expr} {w1 w2 : TI} (a : PI X tg it w1) (b : PI X tg it w2) : PI X tg it (fun σ H R => w1 σ H R ∨ w2 σ H R) :=
  ⟨fun pins s σ H R I h => h.elim (a.run pins s σ H R I) (b.run pins s σ H R I)⟩
def rJoinK (K : PySem.W.Frag) : V → List V → Hp → VK → Prop := fun x xs H Q => ∃ a p, ∃ ys : List Str, x = .str a ∧ xs = [.ref p] ∧ (SqL K H p (ys.map V.str) ∨ SqT K H p (ys.map V.str)) ∧ (ys.map (·.length)).sum + ys.length * a.length ≤ 16777216 ∧ Q (.str (Txt.join a ys)) H
theorem pe_joinK {X : Cx} {o e : Expr} {to te : TE} {pos apos : Pos} {K : PySem.W.Frag} (hK : X.K = K) (ho : PE X o to) (he : PE X e te) (hs : starEach [e] X.env = [(false, eval e X.env)] := by rfl) (hbase : attributeBase o "join" X.env (eval o X.env) = eval o X.env := by rfl) (hline : (apos.endLine == pos.line) = true := by rfl) :
    PE X (.Call (.Attribute o "join" apos) [e] [] pos) (tM1 (rJoinK K) to te) := by
  subst hK
  exact pe_join ho he hs hbase hline
end L2X
namespace Dt
open PySem PySem.Spec PyProof.Rows L2 L2X
open SX (S)
def ch (c : Nat) : V := .str ⟨#[c]⟩
structure RowsR (high wide : Nat) (rs : List (List Nat)) : Prop where
  len : rs.length = high
  row : ∀ l ∈ rs, RowR wide l
theorem PicR.rows {high wide : Nat} {rs : List (List Nat)} (h : PicR high wide rs) : RowsR high wide rs := ⟨h.len, h.row⟩
theorem set_getD {ls : List (List Nat)} {r : Nat} {l : List Nat} (h : ls[r]? = some l) : ls.getD r [] = l := by
  rw [List.getD_eq_getElem?_getD, h]
  rfl
theorem getD_at {l : List Nat} {c x : Nat} (h : l[c]? = some x) : l.getD c 0 = x := by
  rw [List.getD_eq_getElem?_getD, h]
  rfl
structure Plc (K : PySem.W.Frag) (H : Hp) (xs : List V) (ps : List (Nat × Nat)) : Prop where
  len : xs.length = ps.length
  at_ : ∀ (i : Nat) (x : V) (p : Nat × Nat), xs[i]? = some x → ps[i]? = some p → ∃ t, x = .ref t ∧ SqT K H t [.int p.1, .int p.2]
theorem Plc.same {K : PySem.W.Frag} {H H' : Hp} {xs : List V} {ps : List (Nat × Nat)} (h : Plc K H xs ps) (s : Same H H') : Plc K H' xs ps :=
  ⟨h.len, fun i x p a b => let ⟨t, e, z⟩ := h.at_ i x p a b; ⟨t, e, sameT s z⟩⟩
theorem chars_row (l : List Nat) : (S l).cps.toList.map (fun c => V.str ⟨#[c]⟩) = l.map ch := by
  unfold S
  rfl
theorem same_over {H0 H : Hp} {a : Addr} {o : HO} (s : Same H0 H) (n : H0 a = none) : Same H0 (upd H a o) := fun b u e => by
  rw [upd_ne (ne_of_none e n)]
  exact s _ _ e
theorem lens_rows (cs : List Nat) : ((cs.map fun c => (⟨#[c]⟩ : Str)).map (·.length)).sum = cs.length := lens_ones cs
theorem join_row (cs : List Nat) : Txt.join "" (cs.map fun c => (⟨#[c]⟩ : Str)) = S cs := join_ones cs
theorem ixN_at {n j : Nat} (hj : j < n) : ixN n (j : Int) = some j := by
  unfold ixN
  rw [if_pos (by omega), if_pos (by omega)]
  simp
theorem chars_S (l : List Nat) : chars (S l) = l.map fun c => V.str ⟨#[c]⟩ := by
  unfold chars S
  simp
theorem sum_ones : ∀ n : Nat, (List.replicate n (1 : Int)).sum = n
  | 0 => rfl
  | n + 1 => by
    rw [List.replicate_succ, List.sum_cons, sum_ones n]
    omega
theorem ch_dec (a b : Nat) : decide (V.str ⟨#[a]⟩ = V.str ⟨#[b]⟩) = decide (a = b) := by
  apply Bool.eq_iff_iff.mpr
  rw [decide_eq_true_iff, decide_eq_true_iff]
  constructor
  · intro h
    have e1 : (⟨#[a]⟩ : Str) = ⟨#[b]⟩ := V.str.inj h
    have e2 : (#[a] : Array Nat) = #[b] := congrArg Str.cps e1
    have e3 : [a] = [b] := congrArg Array.toList e2
    exact (List.cons.inj e3).1
  · intro h
    rw [h]
structure ExN (K : PySem.W.Frag) (mg : Str → Option Value) (nm : Str) (C : Addr) : Prop where
  g : mg nm = some (.ref C)
  x : PySem.W.excIn K C [.type "ValueError", .type "Exception", .type "BaseException", .type "object"] "ValueError.__new__" = true
  k : PySem.W.keepIn K (.ref C) = true
  b : PySem.W.subIn K (.ref C) (.type "BaseException") = some true
  t : PySem.W.typeIn K (.ref C) = some (.type "type")
structure Tz (mg : Str → Option Value) : Prop where
  sum : mg "sum" = none
  zip : mg "zip" = none
theorem tyB_same2 {K : PySem.W.Frag} {H H' : Hp} {x : V} {T : String} (t : TyB K H x T) (s : Same H H') : TyB K H' x T := by
  cases t with
  | non => exact .non
  | bl b => exact .bl b
  | int i => exact .int i
  | str x => exact .str x
  | byt b => exact .byt b
  | lst h => exact .lst (s.seq h)
  | tup h => exact .tup (sameT s h)
  | dK h => exact .dK (s _ _ h)
theorem Kt.same {K : PySem.W.Frag} {H H' : Hp} {x : V} (h : Kt K H x) (s : Same H H') : Kt K H' x := let ⟨T, t, ok⟩ := h; ⟨T, tyB_same2 t s, ok⟩
theorem all_true : ∀ n : Nat, (List.replicate n true).all id = true
  | 0 => rfl
  | n + 1 => by
    rw [List.replicate_succ, List.all_cons, all_true n]
    rfl
theorem kt_int {K : PySem.W.Frag} {H : Hp} (i : Int) : Kt K H (.int i) := ⟨"int", .int i, rfl⟩
theorem kt_bl {K : PySem.W.Frag} {H : Hp} (b : Bool) : Kt K H (.bl b) := ⟨"bool", .bl b, rfl⟩
def rD (l : List Nat) : PyData := .str (S l)
def pD (p : Nat × Nat) : PyData := .tuple [.int p.1, .int p.2]
theorem strOk_row {l : List Nat} (h : ∀ c ∈ l, c = 35 ∨ c = 46) : PyData.strOk (S l) = true := by
  unfold PyData.strOk S
  simp
  intro c hc
  rcases h c hc with z | z <;> (subst z; decide)
theorem lay_rows : ∀ ls : List (List Nat), (∀ l ∈ ls, ∀ c ∈ l, c = 35 ∨ c = 46) → PyData.canLayAll0 (ls.map rD) = true ∧ PyData.depthAll (ls.map rD) ≤ 1
  | [], _ => ⟨by simp [PyData.canLayAll0], by simp [PyData.depthAll]⟩
  | l :: r, h => by
    obtain ⟨h1, h2⟩ := lay_rows r fun m hm => h m (List.mem_cons_of_mem _ hm)
    refine ⟨?_, ?_⟩
    · rw [List.map_cons]
      simp [PyData.canLayAll0, PyData.canLay0, rD, h1, strOk_row (h l List.mem_cons_self)]
    · rw [List.map_cons]
      simp only [PyData.depthAll, PyData.depth, rD]
      omega
theorem lay_places : ∀ ps : List (Nat × Nat), PyData.canLayAll0 (ps.map pD) = true ∧ PyData.depthAll (ps.map pD) ≤ 3
  | [] => ⟨by simp [PyData.canLayAll0], by simp [PyData.depthAll]⟩
  | p :: r => by
    obtain ⟨h1, h2⟩ := lay_places r
    refine ⟨?_, ?_⟩
    · rw [List.map_cons]
      simp [PyData.canLayAll0, PyData.canLay0, pD, h1]
    · rw [List.map_cons]
      simp only [PyData.depthAll, PyData.depth, pD]
      omega
theorem shaped_rows {high wide : Nat} {ls : List (List Nat)} (R : RowsR high wide ls) : SeqAt.shaped (.tuple (ls.map rD)) = true := by
  obtain ⟨h1, h2⟩ := lay_rows ls fun l hl => (R.row l hl).sg
  unfold SeqAt.shaped
  rw [Bool.and_eq_true, decide_eq_true_iff]
  refine ⟨by simp [PyData.canLay0, h1], ?_⟩
  simp only [PyData.depth]
  omega
theorem shaped_places (ps : List (Nat × Nat)) : SeqAt.shaped (.list (ps.map pD)) = true := by
  obtain ⟨h1, h2⟩ := lay_places ps
  unfold SeqAt.shaped
  rw [Bool.and_eq_true, decide_eq_true_iff]
  refine ⟨by simp [PyData.canLay0, h1], ?_⟩
  simp only [PyData.depth]
  omega
theorem shaped_place (p : Nat × Nat) : SeqAt.shaped (pD p) = true := rfl
theorem eqv_rows : ∀ ls : List (List Nat), PyData.eqvAll (ls.map rD) (ls.map rD) = true
  | [] => by simp [PyData.eqvAll]
  | l :: r => by
    rw [List.map_cons, PyData.eqvAll, eqv_rows r]
    simp [PyData.eqv, rD]
theorem eqv_pD (p q : Nat × Nat) : PyData.eqv (pD p) (pD q) = decide (p = q) := by
  apply Bool.eq_iff_iff.mpr
  rw [decide_eq_true_iff]
  simp [PyData.eqv, PyData.eqvAll, pD, Prod.ext_iff]
  omega
theorem eqv_places : ∀ ps : List (Nat × Nat), PyData.eqvAll (ps.map pD) (ps.map pD) = true
  | [] => by simp [PyData.eqvAll]
  | p :: r => by
    rw [List.map_cons, PyData.eqvAll, eqv_places r, eqv_pD, decide_eq_true rfl]
    rfl
section
variable {K : PySem.W.Frag} {H : Hp}
theorem dp_rows : ∀ ls : List (List Nat), DpAll K H (ls.map rv) (ls.map rD)
  | [] => .nil
  | l :: r => .cons (.str _) (dp_rows r)
theorem dp_place {t : Addr} {p : Nat × Nat} (h : SqT K H t [.int p.1, .int p.2]) : Dp K H (.ref t) (pD p) := .tup h (.cons (.int _) (.cons (.int _) .nil))
theorem dp_places : ∀ {xs : List V} {ps : List (Nat × Nat)}, Plc K H xs ps → DpAll K H xs (ps.map pD)
  | [], [], _ => .nil
  | [], _ :: _, h => nomatch h.len
  | _ :: _, [], h => nomatch h.len
  | x :: xs, p :: ps, h => by
    obtain ⟨t, e, ht⟩ := h.at_ 0 x p rfl rfl
    subst e
    exact .cons (dp_place ht) (dp_places ⟨Nat.succ.inj h.len, fun i y q a b => h.at_ (i + 1) y q a b⟩)
theorem Plc.app {xs ys : List V} {ps qs : List (Nat × Nat)} (a : Plc K H xs ps) (b : Plc K H ys qs) : Plc K H (xs ++ ys) (ps ++ qs) := by
  refine ⟨by rw [List.length_append, List.length_append, a.len, b.len], fun i x p hx hp => ?_⟩
  by_cases hi : i < xs.length
  · rw [List.getElem?_append_left hi] at hx
    rw [List.getElem?_append_left (by rw [← a.len]; exact hi)] at hp
    exact a.at_ i x p hx hp
  · rw [List.getElem?_append_right (by omega)] at hx
    rw [List.getElem?_append_right (by rw [← a.len]; omega), ← a.len] at hp
    exact b.at_ _ x p hx hp
theorem plc_upd {xs ys zs : List V} {ps : List (Nat × Nat)} {l : Addr} (h : Plc K H xs ps) (hl : H l = some (.lst ys)) : Plc K (upd H l (.lst zs)) xs ps := by
  refine ⟨h.len, fun i x p a b => ?_⟩
  obtain ⟨t, e, ht⟩ := h.at_ i x p a b
  refine ⟨t, e, ?_⟩
  rcases ht with (ht | ⟨o, ht⟩) | ht
  · exact SqT.of (by rw [upd_ne (ne_of ht hl (by intro z; cases z))]; exact ht)
  · exact .inl (.inr ⟨o, by rw [upd_ne (ne_of ht hl (by intro z; cases z))]; exact ht⟩)
  · exact .inr ht
theorem Plc.take {xs : List V} {ps : List (Nat × Nat)} (a : Plc K H xs ps) (n : Nat) : Plc K H (xs.take n) (ps.take n) := by
  refine ⟨by rw [List.length_take, List.length_take, a.len], fun i x p hx hp => ?_⟩
  rw [List.getElem?_take] at hx hp
  split at hx
  · rename_i h
    rw [if_pos h] at hp
    exact a.at_ i x p hx hp
  · cases hx
end
theorem cutV_whole {xs : List V} {lo hi : Option Int} (h : HT.sIx xs.length 0 lo = 0 ∧ HT.sIx xs.length xs.length hi = xs.length) : cutV xs lo hi = xs := by
  unfold cutV
  rw [h.1, h.2, List.drop_zero, Nat.sub_zero, List.take_length]
theorem sl_any {K : PySem.W.Frag} {H : Hp} {a : Addr} {xs : List V} {lo hi : Option Int} {Q : VK} (h : H a = some (.tup xs)) (q : ∀ z H2, Same H H2 → H2 z = some (.tup (cutV xs lo hi)) → Q (.ref z) H2) : rSlA K (.ref a) lo hi H Q :=
  ⟨a, xs, rfl, SqT.of h, fun w => q a H (Same.refl H) (by rw [cutV_whole w]; exact h), fun _ p hp => q p _ (same_upd hp) upd_same⟩
theorem cat_any {K : PySem.W.Frag} {H : Hp} {a b : Addr} {xs ys : List V} {Q : VK} (h : H a = some (.tup xs)) (g : H b = some (.tup ys)) (hz : xs.length + ys.length ≤ sizeLine) (q : ∀ z H2, Same H H2 → H2 z = some (.tup (xs ++ ys)) → Q (.ref z) H2) :
    rCatA K (.ref a) (.ref b) H Q :=
  ⟨a, b, xs, ys, rfl, rfl, SqT.of h, SqT.of g, hz, fun e => q b H (Same.refl H) (by rw [e]; exact g), fun _ e => q a H (Same.refl H) (by rw [e, List.append_nil]; exact h), fun _ _ p hp => q p _ (same_upd hp) upd_same⟩
theorem rep_any {K : PySem.W.Frag} {H : Hp} {a : Addr} {x : V} {k : Nat} {Q : VK} (h : H a = some (.tup [x])) (h1 : 1 ≤ k) (h2 : k ≤ 1000) (q : ∀ z H2, Same H H2 → H2 z = some (.tup (List.replicate k x)) → Q (.ref z) H2) :
    rRepA K (.ref a) (.int k) H Q := by
  have flat : ∀ n : Nat, (List.replicate n [x]).flatten = List.replicate n x := by
    intro n
    induction n with
    | zero => rfl
    | succ n ih => rw [List.replicate_succ, List.flatten_cons, ih, List.replicate_succ]; rfl
  refine ⟨a, k, [x], rfl, rfl, SqT.of h, (by simp), by omega, by omega, by show 1 ≤ 1000; decide, fun e => q a H (Same.refl H) ?_, fun _ p hp => q p _ (same_upd hp) ?_⟩
  · have : k = 1 := by omega
    subst this
    exact h
  · rw [upd_same, Int.toNat_natCast, flat]
end Dt
/-! a list or a tuple walked, one rule for both -/
namespace L2X
open PySem PySem.Spec PyProof.Rows L2
/-- at a stands a list (true) or a tuple (false) of xs -/
def Sq (K : PySem.W.Frag) (H : Hp) (b : Bool) (a : Addr) (xs : List V) : Prop := match b with
  | true => SqL K H a xs
  | false => SqT K H a xs
theorem sameT0 {K : PySem.W.Frag} {H H' : Hp} {a : Addr} {xs : List V} (e : Same H H') (h : SqT K H a xs) : SqT K H' a xs := by
  rcases h with (h | ⟨o, h⟩) | h
  · exact .inl (.inl (e _ _ h))
  · exact .inl (.inr ⟨o, e _ _ h⟩)
  · exact .inr h
theorem Sq.same {K : PySem.W.Frag} {H H' : Hp} {b : Bool} {a : Addr} {xs : List V} (h : Sq K H b a xs) (s : Same H H') : Sq K H' b a xs := by
  cases b with
  | true => exact s.seq h
  | false => exact sameT0 s h
def Its (K : PySem.W.Frag) (b : Bool) (a : Addr) : It := match b with
  | true => Itl K a
  | false => Itt K a
def iSq (K : PySem.W.Frag) (tl : TE) : TI := fun σ H R => tl σ H fun x H1 => ∃ b a xs, x = .ref a ∧ Sq K H1 b a xs ∧ R (Its K b a) H1
theorem pi_sq {X : Cx} {tg l : Expr} {tl : TE} (hl : PE X l tl) : PI X tg l (iSq X.K tl) := by
  refine ⟨fun pins s σ H R I h => ?_⟩
  refine thn (hl.run pins s σ H _ I h) fun v s1 ⟨x, H1, I1, r1, q1⟩ => ?_
  obtain ⟨b, a, xs, e, hq, q⟩ := q1
  subst e
  cases r1
  cases b with
  | true =>
    obtain ⟨its, rv, p, hz⟩ := I1.list hq
    refine wpAny_pyIter_list p.isList ?_
    refine ⟨s1.heap.objs.size, [s1.heap.objs.size], _, _, H1, rfl, I1.kept (t' := s1.toks) fun b o e => Heap.get?_push_of_some _ e, turn_list a _, ⟨_, Heap.get?_push_size _ rfl, rfl, rfl⟩, fun b hb => ?_, q⟩
    have e : b = s1.heap.objs.size := by simpa using hb
    subst e
    exact I1.fpOk (Nat.le_refl _) (I1.hok.fresh (Nat.le_refl _))
  | false =>
    obtain ⟨its, rv, p, hz⟩ := I1.tuple hq
    refine wpAny_pyIter_tuple (show s1.heap.IsTuple a its.toArray from p) ?_
    refine ⟨s1.heap.objs.size, [s1.heap.objs.size], _, _, H1, rfl, I1.kept (t' := s1.toks) fun b o e => Heap.get?_push_of_some _ e, turn_tuple a _, ⟨_, Heap.get?_push_size _ rfl, rfl, rfl⟩, fun b hb => ?_, q⟩
    have e : b = s1.heap.objs.size := by simpa using hb
    subst e
    exact I1.fpOk (Nat.le_refl _) (I1.hok.fresh (Nat.le_refl _))
theorem lc_sq {K : PySem.W.Frag} {b : Bool} {a : Addr} {xs : List V} {g : TG} {tt : TT} {te : TE} {vs : List Nat} {σ : L2.St} {H1 : Hp} {D : Addr} {Qd : Hp → Prop} (Pv : Nat → Hp → Prop) (h0 : Pv 0 (upd H1 D (.lst []))) (hl : ∀ i H, i ≤ xs.length → Pv i H → Sq K H b a xs)
    (hs : ∀ i x H, xs[i]? = some x → Pv i H → g x (wipe σ vs) H fun σ2 H2 => wipe σ2 vs = wipe σ vs ∧ tt σ2 H2 fun b H3 =>
      if b = true then te σ2 H3 fun y H4 => ∃ acc, H4 D = some (.lst acc) ∧ acc.length < sizeLine ∧ Pv (i + 1) (upd H4 D (.lst (acc ++ [y]))) else Pv (i + 1) H3) (hd : ∀ H, Pv xs.length H → Qd H) :
    ∃ W : Nat → Nat → Hp → Prop, (∃ m, W 0 m (upd H1 D (.lst []))) ∧ ∀ i m H, W i m H →
      ((Its K b a).stop i H ∧ Qd H) ∨ ((Its K b a).go i H ∧ ∃ Nx : Hp → Prop, (∀ H', Nx H' → ∃ m', m' < m ∧ W (i + 1) m' H') ∧ ∀ x H', (Its K b a).yld i H x H' → g x (wipe σ vs) H' fun σ2 H2 => wipe σ2 vs = wipe σ vs ∧ tt σ2 H2 fun b H3 =>
        if b = true then te σ2 H3 fun y H4 => ∃ acc, H4 D = some (.lst acc) ∧ acc.length < sizeLine ∧ Nx (upd H4 D (.lst (acc ++ [y]))) else Nx H3) := by
  cases b with
  | true => exact lc_list Pv h0 hl hs hd
  | false => exact lc_tup Pv h0 hl hs hd
end L2X
namespace L2X
open PySem PySem.Spec PyProof.Rows L2
/-! ### comprehensions of two clauses, and of one, over anything -/
theorem lc2_by {J : It} {g : TG} {tt : TT} {wi1 : TI} {g1 : TG} {tt1 : TT} {te : TE} {vs vs1 : List Nat} {σ : L2.St} {H1 : Hp} {D : Addr} {Qd : Hp → Prop} (n : Nat) (Pv : Nat → Hp → Prop) (h0 : Pv 0 (upd H1 D (.lst [])))
    (hstop : ∀ H, Pv n H → J.stop n H) (hgo : ∀ i H, i < n → Pv i H → J.go i H)
    (hs : ∀ i x H H', i < n → Pv i H → J.yld i H x H' → g x (wipe σ vs) H' fun σ2 H2 => wipe σ2 vs = wipe σ vs ∧ tt σ2 H2 fun b H3 =>
      if b = true then wi1 σ2 H3 fun J1 H4 => ∃ W1 : Nat → Nat → Hp → Prop, (∃ m, W1 0 m H4) ∧ ∀ j k H, W1 j k H →
        (J1.stop j H ∧ Pv (i + 1) H) ∨ (J1.go j H ∧ ∃ Nx1 : Hp → Prop, (∀ H', Nx1 H' → ∃ k', k' < k ∧ W1 (j + 1) k' H') ∧ ∀ x H', J1.yld j H x H' → g1 x (wipe σ2 vs1) H' fun σ3 H5 => wipe σ3 vs1 = wipe σ2 vs1 ∧ tt1 σ3 H5 fun b H6 =>
          if b = true then te σ3 H6 fun y H7 => ∃ acc, H7 D = some (.lst acc) ∧ acc.length < sizeLine ∧ Nx1 (upd H7 D (.lst (acc ++ [y]))) else Nx1 H6)
      else Pv (i + 1) H3) (hd : ∀ H, Pv n H → Qd H) :
    ∃ W : Nat → Nat → Hp → Prop, (∃ m, W 0 m (upd H1 D (.lst []))) ∧ ∀ i m H, W i m H →
      (J.stop i H ∧ Qd H) ∨ (J.go i H ∧ ∃ Nx : Hp → Prop, (∀ H', Nx H' → ∃ m', m' < m ∧ W (i + 1) m' H') ∧ ∀ x H', J.yld i H x H' → g x (wipe σ vs) H' fun σ2 H2 => wipe σ2 vs = wipe σ vs ∧ tt σ2 H2 fun b H3 =>
        if b = true then wi1 σ2 H3 fun J1 H4 => ∃ W1 : Nat → Nat → Hp → Prop, (∃ m, W1 0 m H4) ∧ ∀ j k H, W1 j k H →
          (J1.stop j H ∧ Nx H) ∨ (J1.go j H ∧ ∃ Nx1 : Hp → Prop, (∀ H', Nx1 H' → ∃ k', k' < k ∧ W1 (j + 1) k' H') ∧ ∀ x H', J1.yld j H x H' → g1 x (wipe σ2 vs1) H' fun σ3 H5 => wipe σ3 vs1 = wipe σ2 vs1 ∧ tt1 σ3 H5 fun b H6 =>
            if b = true then te σ3 H6 fun y H7 => ∃ acc, H7 D = some (.lst acc) ∧ acc.length < sizeLine ∧ Nx1 (upd H7 D (.lst (acc ++ [y]))) else Nx1 H6)
        else Nx H3) := by
  refine ⟨fun i m H => m = n - i ∧ i ≤ n ∧ Pv i H, ⟨n, by simp, Nat.zero_le _, h0⟩, ?_⟩
  rintro i m H ⟨rfl, hi, p⟩
  by_cases hlt : i < n
  · exact .inr ⟨hgo i H hlt p, Pv (i + 1), fun H' p' => ⟨n - (i + 1), by omega, rfl, hlt, p'⟩, fun x H' y => hs i x H H' hlt p y⟩
  · have e : i = n := by omega
    subst e
    exact .inl ⟨hstop H p, hd H p⟩
theorem lc2_in {J1 : It} {g1 : TG} {tt1 : TT} {te : TE} {vs1 : List Nat} {σ2 : L2.St} {H4 : Hp} {D : Addr} {Nx : Hp → Prop} (n : Nat) (Pv : Nat → Hp → Prop) (h0 : Pv 0 H4) (hstop : ∀ H, Pv n H → J1.stop n H) (hgo : ∀ i H, i < n → Pv i H → J1.go i H)
    (hs : ∀ i x H H', i < n → Pv i H → J1.yld i H x H' → g1 x (wipe σ2 vs1) H' fun σ3 H5 => wipe σ3 vs1 = wipe σ2 vs1 ∧ tt1 σ3 H5 fun b H6 =>
      if b = true then te σ3 H6 fun y H7 => ∃ acc, H7 D = some (.lst acc) ∧ acc.length < sizeLine ∧ Pv (i + 1) (upd H7 D (.lst (acc ++ [y]))) else Pv (i + 1) H6) (hd : ∀ H, Pv n H → Nx H) :
    ∃ W1 : Nat → Nat → Hp → Prop, (∃ m, W1 0 m H4) ∧ ∀ j k H, W1 j k H →
      (J1.stop j H ∧ Nx H) ∨ (J1.go j H ∧ ∃ Nx1 : Hp → Prop, (∀ H', Nx1 H' → ∃ k', k' < k ∧ W1 (j + 1) k' H') ∧ ∀ x H', J1.yld j H x H' → g1 x (wipe σ2 vs1) H' fun σ3 H5 => wipe σ3 vs1 = wipe σ2 vs1 ∧ tt1 σ3 H5 fun b H6 =>
        if b = true then te σ3 H6 fun y H7 => ∃ acc, H7 D = some (.lst acc) ∧ acc.length < sizeLine ∧ Nx1 (upd H7 D (.lst (acc ++ [y]))) else Nx1 H6) := by
  refine ⟨fun i m H => m = n - i ∧ i ≤ n ∧ Pv i H, ⟨n, by simp, Nat.zero_le _, h0⟩, ?_⟩
  rintro i m H ⟨rfl, hi, p⟩
  by_cases hlt : i < n
  · exact .inr ⟨hgo i H hlt p, Pv (i + 1), fun H' p' => ⟨n - (i + 1), by omega, rfl, hlt, p'⟩, fun x H' y => hs i x H H' hlt p y⟩
  · have e : i = n := by omega
    subst e
    exact .inl ⟨hstop H p, hd H p⟩
end L2X
namespace Dt
open PySem PySem.Spec PyProof.Rows L2 L2X
open SX (S)
/-! ### dots -/
theorem smallT {n : Nat} (h : n < 100000) : n < sizeLine := Nat.lt_of_lt_of_le h (by decide)
def rowDots (r : Nat) (l : List Nat) : List (Nat × Nat) := (l.zipIdx.filter fun p => decide (p.1 = 35)).map fun p => (r, p.2)
def dotsP (rs : List (List Nat)) : List (Nat × Nat) := (rs.zipIdx.map fun p => rowDots p.2 p.1).flatten
theorem map_at {α β : Type} {f : α → β} {l : List α} {i : Nat} {y : β} (h : (l.map f)[i]? = some y) : ∃ x, l[i]? = some x ∧ y = f x := by
  rw [List.getElem?_map] at h
  cases e : l[i]? with
  | none =>
    rw [e] at h
    cases h
  | some z =>
    rw [e] at h
    exact ⟨z, rfl, (Option.some.inj h).symm⟩
theorem dotsP_snoc {rs : List (List Nat)} {i : Nat} {l : List Nat} (h : rs[i]? = some l) : dotsP (rs.take (i + 1)) = dotsP (rs.take i) ++ rowDots i l := by
  have hi : i < rs.length := (List.getElem?_eq_some_iff.mp h).1
  unfold dotsP
  rw [take_snoc h, List.zipIdx_append, List.map_append, List.flatten_append]
  have : (rs.take i).length = i := by
    rw [List.length_take]
    omega
  simp [this]
theorem rowDots_snoc {r : Nat} {l : List Nat} {j c : Nat} (h : l[j]? = some c) : rowDots r (l.take (j + 1)) = rowDots r (l.take j) ++ if c = 35 then [(r, j)] else [] := by
  have hj : j < l.length := (List.getElem?_eq_some_iff.mp h).1
  unfold rowDots
  rw [take_snoc h, List.zipIdx_append, List.filter_append, List.map_append]
  have : (l.take j).length = j := by
    rw [List.length_take]
    omega
  by_cases e : c = 35
  · simp [this, e]
  · simp [this, e]
theorem plc_one {K : PySem.W.Frag} {H : Hp} {xs : List V} {ps : List (Nat × Nat)} {D t : Addr} {r c : Nat} (h : Plc K H xs ps) (hD : H D = some (.lst xs)) (ht : H t = none) :
    Plc K (upd (upd H t (.tup [.int r, .int c])) D (.lst (xs ++ [.ref t]))) (xs ++ [.ref t]) (ps ++ [(r, c)]) := by
  have s := same_upd (o := .tup [V.int r, V.int c]) ht
  have one : Plc K (upd H t (.tup [V.int r, V.int c])) [V.ref t] [(r, c)] := ⟨rfl, fun i x pp hx hpp => by
    cases i with
    | zero =>
      cases hx
      cases hpp
      exact ⟨t, rfl, SqT.of upd_same⟩
    | succ i => exact nomatch hx⟩
  exact plc_upd ((h.same s).app one) (s _ _ hD)
abbrev sDots : Stmt := topS 20
theorem scDots : FnScope ["picture", "at", "row", "column", "sign"] ["picture"] (defScope sDots) := ⟨rfl, rfl, rfl, by decide +kernel, rfl, by decide +kernel, by decide +kernel⟩
def spDots (K : PySem.W.Frag) : Sp := fun vs H Q _ => ∃ (a : Addr) (high wide : Nat) (rs : List (List Nat)), vs = [.ref a] ∧ H a = some (.tup (rs.map rv)) ∧ PicR high wide rs ∧
  ∀ D xs H', Same H H' → H D = none → H' D = some (.lst xs) → Plc K H' xs (dotsP rs) → xs.length ≤ 7200 → Q (.ref D) H'
section
variable {P : Program} {w : World} {K : PySem.W.Frag} {mg : Str → Option Value} {base : Heap} {C CP : Addr}
theorem ok_dots {f : Addr} {fd : FuncData} {k : Nat} (F : Fun K "dots" "dots" sDots f fd) (en : mg "enumerate" = none) (G : GW P w K mg base C (k + 1)) : FnOk P w K mg base (L2.CX P w) (k + 2) f fd ["picture"] (spDots K) := by
  obtain ⟨fW, fdW, GW, mW, kW, bW⟩ := G.ex
  refine F.okX scDots (fun vs H Q E h => ?_) (fun cdv A outer s H vs Q E hr h => ?_)
  · obtain ⟨a, _, _, _, rfl, _⟩ := h
    rfl
  · obtain ⟨a, high, wide, rs, rfl, ha, pr, q⟩ := h
    have nd := scDots.nd
    refine ⟨_, pss_cons (ps_expr (pe_callS GW hr (by rfl) mW kW bW (fun σ => passAt (takes_of rfl rfl rfl rfl) σ) (pa_cons (pv 0) pa_nil)))
      (pss_one (ps_ret (pe_lc2 (own := [("at", 1), ("row", 2), ("column", 3), ("sign", 4)]) (vs1 := [3, 4]) (g := gTup K 2 (gCons (gName 1) (gCons (gName 2) gNil))) (tt := tYes) (wi1 := iEnumG K (tCons (tVar 2) tNil)) (g1 := gTup K 2 (gCons (gName 3) (gCons (gName 4) gNil))) rfl nd
        (pi_enumG (by rfl) en (pa_cons (pv 0) pa_nil)) (blkOk_by (N := ["picture", "at", "row", "column", "sign"]) (sc := defScope sDots) (by decide +kernel)) (by decide)
        (fun _ _ _ _ _ => pg_tup rfl (pgs_cons (pg_name (i := 1) nd rfl (Or.inl rfl)) (pgs_cons (pg_name (i := 2) nd rfl (Or.inl rfl)) pgs_nil))) (fun _ _ _ _ _ => pts_nil)
        (fun _ _ _ _ _ => pi_enumG (by rfl) en (pa_cons (pv 2) pa_nil))
        (fun _ _ _ _ _ => pg_tup rfl (pgs_cons (pg_name (i := 3) nd rfl (Or.inl rfl)) (pgs_cons (pg_name (i := 4) nd rfl (Or.inl rfl)) pgs_nil)))
        (fun _ _ _ _ _ => pts_one (pt_cmpR op_eq (pv 4) pe_str (nomark _))) (fun _ _ _ _ _ => pe_tup (pa_cons (pv 1) (pa_cons (pv 3) pa_nil)))))), ?_⟩
    refine ⟨.ref a, rfl, .ref a, true, rfl, askPic pr ha, fun _ H1 s1 => ?_, fun e => nomatch e⟩
    have ha1 := s1 _ _ ha
    have w1 := pr.w1
    have h1' := pr.h1
    have hlen := pr.len
    refine ⟨.ref a, rfl, .tup a, rs.map rv, rfl, SqT.of ha1, fun D hD => lc2_by rs.length (fun i H2 => Same H1 H2 ∧ ∃ xs, H2 D = some (.lst xs) ∧ Plc K H2 xs (dotsP (rs.take i)) ∧ xs.length ≤ i * 120) ?_ ?_ ?_ ?_ ?_⟩
    · exact ⟨same_upd hD, [], upd_same, ⟨rfl, fun i x p h => nomatch h⟩, Nat.zero_le _⟩
    · rintro H2 ⟨sm, _⟩
      exact ⟨_, SqT.of (sm _ _ ha1), List.length_map _⟩
    · rintro i H2 hi ⟨sm, _⟩
      exact ⟨_, _, SqT.of (sm _ _ ha1), List.getElem?_eq_getElem (by rw [List.length_map]; exact hi)⟩
    · rintro i x H2 H3 hi ⟨sm, xs, hx, pl, lx⟩ ⟨T, y, rfl, nT, rfl, hy⟩
      obtain ⟨l, hl, rfl⟩ := map_at (hy _ (SqT.of (sm _ _ ha1)))
      have l1 := (pr.row l (List.mem_of_getElem? hl)).len
      have sT := same_upd (o := .tup [V.int (i : Nat), rv l]) nT
      refine ⟨T, _, rfl, SqT.of upd_same, rfl, _, _, rfl, _, _, rfl, rfl, rfl, ?_⟩
      refine ⟨rv l, rfl, .txt (S l), chars (S l), rfl, rfl, lc2_in wide (fun j H4 => Same H1 H4 ∧ ∃ xs, H4 D = some (.lst xs) ∧ Plc K H4 xs (dotsP (rs.take i) ++ rowDots i (l.take j)) ∧ xs.length ≤ i * 120 + j) ?_ ?_ ?_ ?_ ?_⟩
      · exact ⟨sm.trans sT, xs, sT _ _ hx, by rw [List.take_zero]; show Plc K _ xs (dotsP (rs.take i) ++ []); rw [List.append_nil]; exact pl.same sT, lx⟩
      · rintro H4 _
        exact ⟨_, rfl, by rw [chars_S, List.length_map, l1]⟩
      · rintro j H4 hj _
        exact ⟨_, _, rfl, List.getElem?_eq_getElem (by rw [chars_S, List.length_map, l1]; exact hj)⟩
      · rintro j x H4 H5 hj ⟨sm4, ys, hys, pl4, ly⟩ ⟨T2, z, rfl, nT2, rfl, hz⟩
        have hz' := hz _ rfl
        rw [chars_S] at hz'
        obtain ⟨c, hc, rfl⟩ := map_at hz'
        have sT2 := same_upd (o := .tup [V.int (j : Nat), V.str ⟨#[c]⟩]) nT2
        refine ⟨T2, _, rfl, SqT.of upd_same, rfl, _, _, rfl, _, _, rfl, rfl, rfl, .str ⟨#[c]⟩, rfl, rfl, _, rfl, ?_⟩
        have e1 : decide (V.str ⟨#[c]⟩ = V.str "#") = decide (c = 35) := by
          rw [s_hash]
          exact ch_dec c 35
        rw [e1, rowDots_snoc hc]
        have hys5 := sT2 _ _ hys
        have nD : D ≠ T2 := fun e => by
          rw [e, nT2] at hys
          cases hys
        by_cases ec : c = 35
        · rw [decide_eq_true ec, if_pos ec]
          refine iteT ⟨.int i, rfl, .int j, rfl, by show 2 ≤ sizeLine; decide, fun t ht => ⟨ys, ?_, smallT (by omega), ?_, ys ++ [.ref t], upd_same, ?_, ?_⟩⟩
          · rw [upd_ne (ne_of_none hys5 ht)]
            exact hys5
          · exact same_over ((sm4.trans sT2).trans (same_upd ht)) hD
          · rw [← List.append_assoc]
            exact plc_one (pl4.same sT2) hys5 ht
          · rw [List.length_append, List.length_singleton]
            omega
        · rw [decide_eq_false ec, if_neg ec, List.append_nil]
          exact iteF ⟨sm4.trans sT2, ys, hys5, pl4.same sT2, by omega⟩
      · rintro H4 ⟨sm4, ys, hys, pl4, ly⟩
        have e : l.take wide = l := List.take_of_length_le (by omega)
        rw [e, ← dotsP_snoc hl] at pl4
        exact ⟨sm4, ys, hys, pl4, by omega⟩
    · rintro H2 ⟨sm, xs, hx, pl, lx⟩
      rw [List.take_length] at pl
      exact q D xs H2 (s1.trans sm) (s1.free hD) hx pl (by omega)
end
end Dt
namespace Dt
open PySem PySem.Spec PyProof.Rows L2 L2X
open SX (S)
/-! ### what a def promises, in one -/
/-- a def of the text as it stands behind the top -/
structure Df (K : PySem.W.Frag) (mg : Str → Option Value) (nm : Str) (st : Stmt) (ps : List Str) : Prop where
  ex : ∃ f fd, Fun K nm nm st f fd ∧ mg nm = some (.ref f) ∧ Binds K fd ps []
/-- .. with its promise -/
structure Pm (P : Program) (w : World) (K : PySem.W.Frag) (mg : Str → Option Value) (base : Heap) (CX : CXT) (k : Nat) (nm : Str) (ps : List Str) (sp : Sp) : Prop where
  ex : ∃ f fd, FnOk P w K mg base CX k f fd ps sp ∧ mg nm = some (.ref f) ∧ PySem.W.keepIn K (.ref f) = true ∧ Binds K fd ps []
theorem Pm.of {P : Program} {w : World} {K : PySem.W.Frag} {mg : Str → Option Value} {base : Heap} {CX : CXT} {k : Nat} {nm : Str} {st : Stmt} {ps : List Str} {sp : Sp} (d : Df K mg nm st ps) (h : ∀ f fd, Fun K nm nm st f fd → FnOk P w K mg base CX k f fd ps sp) : Pm P w K mg base CX k nm ps sp := by
  obtain ⟨f, fd, F, m, b⟩ := d.ex
  exact ⟨f, fd, h f fd F, m, F.kp, b⟩
/-! ### parts -/
def strB (x y : V) (n : Int) : Bool := match y with
  | .int m => decide (1 ≤ m) && betw x 0 (n - m)
  | _ => false
theorem strB_no {x y : V} {n : Int} (h : isInt y = false) : strB x y n = false := by
  cases y with
  | int i => cases h
  | _ => rfl
theorem strB_true {x y : V} {n : Nat} (h : strB x y (n : Int) = true) : ∃ t m : Nat, x = .int t ∧ y = .int m ∧ 1 ≤ m ∧ t + m ≤ n := by
  cases y with
  | int m =>
    unfold strB at h
    rw [Bool.and_eq_true, decide_eq_true_iff] at h
    obtain ⟨h1, h2⟩ := h
    cases x with
    | int t =>
      rw [betw_int, Bool.and_eq_true, decide_eq_true_iff, decide_eq_true_iff] at h2
      refine ⟨t.toNat, m.toNat, ?_, ?_, by omega, by omega⟩
      · rw [Int.toNat_of_nonneg h2.1]
      · rw [Int.toNat_of_nonneg (by omega)]
    | _ => cases h2
  | _ => cases h
def cutR (rs : List (List Nat)) (t l h w : Nat) : List (List Nat) := ((rs.drop t).take h).map fun r => (r.drop l).take w
theorem cutV_mid (xs : List V) (t h : Nat) (b : t + h ≤ xs.length) : cutV xs (some (t : Int)) (some ((t : Int) + (h : Int))) = (xs.drop t).take h := by
  have e : ((t : Int) + (h : Int)) = ((t + h : Nat) : Int) := by omega
  unfold cutV
  rw [e, HT.sIx_nat, HT.sIx_nat, Nat.min_eq_left b, Nat.min_eq_left (by omega), Nat.add_sub_cancel_left]
theorem cutS_mid (l : List Nat) (t h : Nat) (b : t + h ≤ l.length) : cutS (S l) (some (t : Int)) (some ((t : Int) + (h : Int))) = S ((l.drop t).take h) := by
  have e : ((t : Int) + (h : Int)) = ((t + h : Nat) : Int) := by omega
  unfold cutS
  rw [e, SX.S_len, HT.sIx_nat, HT.sIx_nat, Nat.min_eq_left b, Nat.min_eq_left (by omega), Nat.add_sub_cancel_left]
abbrev sStr : Stmt := topS 22
theorem scStr : FnScope ["start", "many", "whole"] ["start", "many", "whole"] (defScope sStr) := ⟨rfl, rfl, rfl, by decide +kernel, rfl, by decide +kernel, by decide +kernel⟩
def spStr (K : PySem.W.Frag) : Sp := fun vs H Q _ => ∃ x y n, vs = [x, y, .int n] ∧ Kt K H x ∧ Kt K H y ∧ Q (.bl (strB x y n)) H
abbrev sCut : Stmt := topS 21
theorem scCut : FnScope ["picture", "top", "left", "high", "wide", "rows", "columns", "row"] ["picture", "top", "left", "high", "wide"] (defScope sCut) := ⟨rfl, rfl, rfl, by decide +kernel, rfl, by decide +kernel, by decide +kernel⟩
def spCut (K : PySem.W.Frag) (CP : Addr) : Sp := fun vs H Q E => ∃ (a : Addr) (high wide : Nat) (rs : List (List Nat)) (x1 x2 x3 x4 : V), vs = [.ref a, x1, x2, x3, x4] ∧ H a = some (.tup (rs.map rv)) ∧ PicR high wide rs ∧ Kt K H x1 ∧ Kt K H x2 ∧ Kt K H x3 ∧ Kt K H x4 ∧
  ((strB x1 x3 high && strB x2 x4 wide) = true → ∀ t l h w : Nat, x1 = .int t → x2 = .int l → x3 = .int h → x4 = .int w → t + h ≤ high → l + w ≤ wide → 1 ≤ h → 1 ≤ w → ∀ p H', Same H H' → H p = none → H' p = some (.tup ((cutR rs t l h w).map rv)) → Q (.ref p) H') ∧
  ((strB x1 x3 high && strB x2 x4 wide) = false → ∀ H', Same H H' → E (.ref CP) none H')
section
variable {P : Program} {w : World} {K : PySem.W.Frag} {mg : Str → Option Value} {base : Heap} {C CP : Addr}
theorem ok_str {f : Addr} {fd : FuncData} {k : Nat} (F : Fun K "_is_stretch" "_is_stretch" sStr f fd) (GI : Pm P w K mg base CX0 (k + 1) "is_number" ["thing"] (spIsNum K)) (GB : Pm P w K mg base CX0 (k + 2) "is_between" ["thing", "least", "most"] (spBetw K)) : FnOk P w K mg base CX0 (k + 3) f fd ["start", "many", "whole"] (spStr K) := by
  obtain ⟨fI, fdI, GI, mI, kI, bI⟩ := GI.ex
  obtain ⟨fB, fdB, GB, mB, kB, bB⟩ := GB.ex
  refine F.ok scStr (fun vs H Q E h => ?_) (fun cdv A outer s H vs Q E hr h => ?_)
  · obtain ⟨x, y, n, rfl, _⟩ := h
    rfl
  · obtain ⟨x, y, n, rfl, kx, ky, q⟩ := h
    have hr1 : Room (k + 1) _ := hr.mono (by omega)
    refine ⟨_, pss_one (ps_ret (pe_and (pe_call GI hr1 (by rfl) mI kI bI .nil pass0 (pa_cons (pv 1) pa_nil)) (pe_and (pe_cmpR op_ge (pv 1) pe_int (nomark _)) (pe_one (pe_call GB hr (by rfl) mB kB bB .nil pass0 (pa_cons (pv 0) (pa_cons pe_int (pa_cons (pe_op op_sub (pv 2) (pv 1)) pa_nil)))))))), ?_⟩
    refine ⟨y, rfl, y, rfl, ky, _, rfl, ?_⟩
    cases y with
    | int m =>
      refine iteT ⟨.int m, rfl, m, 1, rfl, rfl, _, rfl, ite2 (fun e => ?_) (fun e => ?_)⟩
      · refine ⟨x, rfl, .int n, rfl, .int m, rfl, n, m, rfl, rfl, x, 0, n - m, rfl, kx, ?_⟩
        have e2 : strB x (.int m) n = betw x 0 (n - m) := by
          show (decide (1 ≤ m) && betw x 0 (n - m)) = _
          have : decide (1 ≤ m) = true := e
          rw [this, Bool.true_and]
        rw [e2] at q
        exact q
      · have e2 : strB x (.int m) n = false := by
          show (decide (1 ≤ m) && betw x 0 (n - m)) = _
          have : decide (1 ≤ m) = false := Bool.eq_false_iff.mpr e
          rw [this, Bool.false_and]
        rw [e2] at q
        exact q
    | _ => exact iteF q
theorem ok_cut {f : Addr} {fd : FuncData} {k : Nat} (F : Fun K "cut_out" "cut_out" sCut f fd) (X : Tx mg) (NP : ExN K mg "NoPlace" CP) (GZ : GS P w K mg base C (k + 3)) (GI : Pm P w K mg base CX0 (k + 3) "_is_stretch" ["start", "many", "whole"] (spStr K)) : FnOk P w K mg base (L2.CX P w) (k + 4) f fd ["picture", "top", "left", "high", "wide"] (spCut K CP) := by
  obtain ⟨fS, fdS, GS, mS, kS, bS⟩ := GZ.ex
  obtain ⟨fI, fdI, GI, mI, kI, bI⟩ := GI.ex
  refine F.okX scCut (fun vs H Q E h => ?_) (fun cdv A outer s H vs Q E hr h => ?_)
  · obtain ⟨a, _, _, _, x1, x2, x3, x4, rfl, _⟩ := h
    rfl
  · obtain ⟨a, high, wide, rs, x1, x2, x3, x4, rfl, ha, pr, k1, k2, k3, k4, q1, q2⟩ := h
    have nd := scCut.nd
    refine ⟨_, pss_cons (ps_asg (pe_callS GS hr (by rfl) mS kS bS (fun σ => passAt (takes_of rfl rfl rfl rfl) σ) (pa_cons (pv 0) pa_nil)) (pg_tup rfl (pgs_cons (pg_name (i := 5) nd rfl (Or.inl rfl)) (pgs_cons (pg_name (i := 6) nd rfl (Or.inl rfl)) pgs_nil))))
      (pss_cons (ps_if (PW.pt (pw_or (pt_not (pt_val (pe_call GI hr (by rfl) mI kI bI .nil pass0 (pa_cons (pv 1) (pa_cons (pv 3) (pa_cons (pv 5) pa_nil)))))) (pw_or1 (pt_not (pt_val (pe_call GI hr (by rfl) mI kI bI .nil pass0 (pa_cons (pv 2) (pa_cons (pv 4) (pa_cons (pv 6) pa_nil)))))))))
        (pss_one (ps_raise rfl (takes_of rfl rfl rfl rfl) (pmk_own PySem.F.excBase_ValueError NP.x NP.g NP.k (raises_own NP.b NP.t) rfl))) pss_nil)
      (pss_one (ps_ret (pe_callTy call_tuple_of (by rfl) X.tuple (by decide +kernel) (pa_cons (pe_lc (own := [("row", 7)]) (g := gName 7) (tt := tYes) rfl nd (pi_tup (pe_slice sl_tupA (pv 0) (po_some (pv 1)) (po_some (pe_op op_add (pv 1) (pv 3))))) (blkOk_by (N := ["picture", "top", "left", "high", "wide", "rows", "columns", "row"]) (sc := defScope sCut) (by decide +kernel)) (fun _ _ _ _ _ => pg_name (i := 7) nd rfl (Or.inl rfl)) (fun _ _ _ _ _ => pts_nil)
          (fun _ _ _ _ _ => pe_slice sl_str (pv 7) (po_some (pv 2)) (po_some (pe_op op_add (pv 2) (pv 4))))) pa_nil))))), ?_⟩
    have e1 := picSize pr
    refine ⟨.ref a, rfl, .ref a, rfl, .inr ⟨a, _, rfl, SqT.of ha, kn_rows pr, picOk_pic pr, fun p3 H3 s3 n3 h3 => ?_⟩⟩
    rw [e1.1, e1.2] at h3
    refine ⟨p3, _, rfl, SqT.of h3, rfl, _, _, rfl, _, _, rfl, rfl, x1, rfl, x3, rfl, .int high, rfl, x1, x3, high, rfl, k1.same s3, k3.same s3, _, rfl, ?_⟩
    cases b1 : strB x1 x3 high with
    | false =>
      refine iteT (iteT (q2 (by rw [b1]; rfl) _ s3))
    | true =>
      refine iteF ⟨x2, rfl, x4, rfl, .int wide, rfl, x2, x4, wide, rfl, k2.same s3, k4.same s3, _, rfl, ?_⟩
      cases b2 : strB x2 x4 wide with
      | false => exact iteT (q2 (by rw [b1, b2]; rfl) _ s3)
      | true =>
        refine iteF ?_
        obtain ⟨t, hh, rfl, rfl, hh1, hh2⟩ := strB_true b1
        obtain ⟨l, ww, rfl, rfl, ww1, ww2⟩ := strB_true b2
        have q := q1 (by rw [b1, b2]; rfl) t l hh ww rfl rfl rfl rfl hh2 ww2 hh1 ww1
        have hlen := pr.len
        refine ⟨.ref a, rfl, .int t, rfl, t, rfl, .int t, rfl, .int hh, rfl, t, hh, rfl, rfl, _, rfl, sl_any (s3 _ _ ha) fun z H4 s4 hz => ?_⟩
        rw [cutV_mid _ _ _ (by rw [List.length_map, hlen]; exact hh2), ← List.map_drop, ← List.map_take] at hz
        have s34 := s3.trans s4
        refine ⟨z, rfl, ⟨_, SqT.of hz⟩, fun D hD => lc_tup (K := K) (a := z) (xs := ((rs.drop t).take hh).map rv) (fun i H5 => Same H4 H5 ∧ H5 D = some (.lst (((((rs.drop t).take hh).take i).map fun r => (r.drop l).take ww).map rv))) ⟨same_upd hD, upd_same⟩ (fun i H5 _ zz => SqT.of (zz.1 _ _ hz)) ?_ ?_⟩
        · rintro i x H5 hi ⟨sm, h5⟩
          obtain ⟨r, hr, rfl⟩ := map_at hi
          have hm : r ∈ rs := List.mem_of_mem_drop (List.mem_of_mem_take (List.mem_of_getElem? hr))
          have lr := (pr.row r hm).len
          have w1 := pr.w1
          have h1' := pr.h1
          have hil : i < ((rs.drop t).take hh).length := (List.getElem?_eq_some_iff.mp hr).1
          rw [List.length_take, List.length_drop] at hil
          refine ⟨rfl, rv r, rfl, .int l, rfl, l, rfl, .int l, rfl, .int ww, rfl, l, ww, rfl, rfl, _, rfl, S r, rfl, ?_, ?_⟩
          · rw [SX.S_len]
            exact Nat.le_of_lt (small1000 (by omega))
          · rw [cutS_mid _ _ _ (by omega)]
            refine ⟨_, h5, ?_, same_over sm hD, ?_⟩
            · rw [List.length_map, List.length_map, List.length_take]
              exact smallT (by omega)
            · rw [upd_same, take_snoc hr, List.map_append, List.map_append]
              rfl
        · rintro H5 ⟨sm, h5⟩
          rw [List.length_map, List.take_length] at h5
          refine ⟨D, _, rfl, .inl ⟨SqL.of h5, fun p hp => ?_⟩⟩
          have sp := same_upd (o := .tup ((cutR rs t l hh ww).map rv)) hp
          exact q p _ ((s34.trans sm).trans sp) (s34.free (sm.free hp)) upd_same
end
end Dt
namespace Dt
open PySem PySem.Spec PyProof.Rows L2 L2X
open SX (S)
/-! ### unlike -/
def misZ (l m : List Nat) : Nat := ((l.zip m).filter fun p => decide (p.1 ≠ p.2)).length
def misP (rs ss : List (List Nat)) : Int := ((rs.zip ss).map fun p => (misZ p.1 p.2 : Int)).sum
abbrev sUS : Stmt := topS 24
theorem scUS : FnScope ["row", "other", "sign", "beside"] ["row", "other"] (defScope sUS) := ⟨rfl, rfl, rfl, by decide +kernel, rfl, by decide +kernel, by decide +kernel⟩
def spUS : Sp := fun vs H Q _ => ∃ l m, vs = [rv l, rv m] ∧ l.length = m.length ∧ l.length ≤ 120 ∧ ∀ H', Same H H' → Q (.int (misZ l m)) H'
abbrev sUnlP : Stmt := topS 23
theorem scUnlP : FnScope ["one", "other", "row", "beside"] ["one", "other"] (defScope sUnlP) := ⟨rfl, rfl, rfl, by decide +kernel, rfl, by decide +kernel, by decide +kernel⟩
/-- of two pictures -/
def spUnlP (CP : Addr) : Sp := fun vs H Q E => ∃ (a b : Addr) (high wide high2 wide2 : Nat) (rs ss : List (List Nat)), vs = [.ref a, .ref b] ∧ H a = some (.tup (rs.map rv)) ∧ H b = some (.tup (ss.map rv)) ∧ PicR high wide rs ∧ PicR high2 wide2 ss ∧
  ((high = high2 ∧ wide = wide2) → ∀ H', Same H H' → Q (.int (misP rs ss)) H') ∧ (¬ (high = high2 ∧ wide = wide2) → ∀ H', Same H H' → E (.ref CP) none H')
section
variable {P : Program} {w : World} {K : PySem.W.Frag} {mg : Str → Option Value} {base : Heap} {C CP : Addr}
theorem ok_US {f : Addr} {fd : FuncData} {k : Nat} (F : Fun K "_unlike_signs" "_unlike_signs" sUS f fd) (Z : Tz mg) : FnOk P w K mg base CX0 (k + 1) f fd ["row", "other"] spUS := by
  refine F.ok scUS (fun vs H Q E h => ?_) (fun cdv A outer s H vs Q E hr h => ?_)
  · obtain ⟨l, m, rfl, _⟩ := h
    rfl
  · obtain ⟨l, m, rfl, hlm, hl, q⟩ := h
    have nd := scUS.nd
    refine ⟨_, pss_one (ps_ret (pe_callB (cr_sum rfl) (by rfl) Z.sum (by decide +kernel) (pa_cons (pe_lc (own := [("sign", 2), ("beside", 3)]) (g := gTup K 2 (gCons (gName 2) (gCons (gName 3) gNil))) rfl nd (pi_zipG (by rfl) Z.zip (pa_cons (pv 0) (pa_cons (pv 1) pa_nil))) (blkOk_by (N := ["row", "other", "sign", "beside"]) (sc := defScope sUS) (by decide +kernel))
      (fun _ _ _ _ _ => pg_tup rfl (pgs_cons (pg_name (i := 2) nd rfl (Or.inl rfl)) (pgs_cons (pg_name (i := 3) nd rfl (Or.inl rfl)) pgs_nil)))
      (fun _ _ _ _ _ => pts_one (pt_cmpR op_ne (pv 2) (pv 3) (nomark _))) (fun _ _ _ _ _ => pe_int)) pa_nil))), ?_⟩
    refine ⟨rv l, rfl, rv m, rfl, .txt (S l), .txt (S m), chars (S l), chars (S m), rfl, rfl, rfl, fun D hD => lc_zipG (K := K) (A := .txt (S l)) (B := .txt (S m)) (xs := chars (S l)) (ys := chars (S m)) ?_
      (fun i H2 => Same H H2 ∧ H2 D = some (.lst ((List.replicate (((l.zip m).take i).filter fun p => decide (p.1 ≠ p.2)).length (1 : Int)).map V.int))) ⟨same_upd hD, upd_same⟩ (fun _ _ _ _ => ⟨rfl, rfl⟩) ?_ ?_⟩
    · rw [chars_S, chars_S, List.length_map, List.length_map, hlm]
    · rintro i x y H2 T hx hy ⟨sm, h2⟩ hT
      rw [chars_S, List.getElem?_map] at hx hy
      obtain ⟨a, ha, rfl⟩ : ∃ a, l[i]? = some a ∧ x = V.str ⟨#[a]⟩ := by
        cases e : l[i]? with
        | none =>
          rw [e] at hx
          cases hx
        | some z =>
          rw [e] at hx
          exact ⟨z, rfl, (Option.some.inj hx).symm⟩
      obtain ⟨b, hb, rfl⟩ : ∃ b, m[i]? = some b ∧ y = V.str ⟨#[b]⟩ := by
        cases e : m[i]? with
        | none =>
          rw [e] at hy
          cases hy
        | some z =>
          rw [e] at hy
          exact ⟨z, rfl, (Option.some.inj hy).symm⟩
      have hz : (l.zip m)[i]? = some (a, b) := List.getElem?_zip_eq_some.mpr ⟨ha, hb⟩
      have sT := same_upd (o := .tup [V.str ⟨#[a]⟩, V.str ⟨#[b]⟩]) hT
      have hlen : (((l.zip m).take i).filter fun p => decide (p.1 ≠ p.2)).length ≤ 120 := by
        refine Nat.le_trans (List.length_filter_le _ _) ?_
        rw [List.length_take, List.length_zip]
        omega
      refine ⟨T, _, rfl, SqT.of upd_same, rfl, _, _, rfl, _, _, rfl, rfl, rfl, .str ⟨#[a]⟩, rfl, .str ⟨#[b]⟩, rfl, rfl, _, rfl, ?_⟩
      rw [ch_dec]
      cases e : decide (a = b) with
      | true =>
        refine iteF ⟨sm.trans sT, ?_⟩
        rw [sT _ _ h2, take_snoc hz, List.filter_append]
        have : (List.filter (fun p : Nat × Nat => decide (p.1 ≠ p.2)) [(a, b)]) = [] := by
          have := of_decide_eq_true e
          simp [this]
        rw [this, List.append_nil]
      | false =>
        refine iteT ⟨_, sT _ _ h2, ?_, ?_, ?_⟩
        · rw [List.length_map, List.length_replicate]
          exact small1000 (by omega)
        · exact fun b o e => by
            rw [upd_ne (ne_of_none e hD)]
            exact sT _ _ (sm _ _ e)
        · rw [upd_same, take_snoc hz, List.filter_append]
          have : (List.filter (fun p : Nat × Nat => decide (p.1 ≠ p.2)) [(a, b)]) = [(a, b)] := by
            have := of_decide_eq_false e
            simp [this]
          rw [this, List.length_append, List.length_singleton, List.replicate_succ', List.map_append]
          rfl
    · rintro H2 ⟨sm, h2⟩
      have e : (l.zip m).take (chars (S l)).length = l.zip m := by
        apply List.take_of_length_le
        rw [chars_S, List.length_map, List.length_zip]
        omega
      rw [e] at h2
      refine ⟨D, _, rfl, SqL.of h2, ?_⟩
      rw [sum_ones]
      exact q H2 sm
theorem ok_unlP {f fS fW fU : Addr} {fd fdS fdW fdU : FuncData} {k : Nat} (F : Fun K "unlike" "unlike" sUnlP f fd) (Z : Tz mg) (NP : ExN K mg "NoPlace" CP) (G : GW P w K mg base C (k + 1)) (GZ : GS P w K mg base C (k + 1))
    (GU : FnOk P w K mg base CX0 (k + 1) fU fdU ["row", "other"] spUS) (mU : mg "_unlike_signs" = some (.ref fU)) (kU : PySem.W.keepIn K (.ref fU) = true) (bU : Binds K fdU ["row", "other"] []) : FnOk P w K mg base (L2.CX P w) (k + 2) f fd ["one", "other"] (spUnlP CP) := by
  obtain ⟨fW, fdW, GW, mW, kW, bW⟩ := G.ex
  obtain ⟨fS, fdS, GS, mS, kS, bS⟩ := GZ.ex
  refine F.okX scUnlP (fun vs H Q E h => ?_) (fun cdv A outer s H vs Q E hr h => ?_)
  · obtain ⟨a, b, _, _, _, _, _, _, rfl, _⟩ := h
    rfl
  · obtain ⟨a, b, high, wide, high2, wide2, rs, ss, rfl, ha, hb, pr, ps, q1, q2⟩ := h
    have nd := scUnlP.nd
    refine ⟨_, pss_cons (ps_expr (pe_callS GW hr (by rfl) mW kW bW (fun σ => passAt (takes_of rfl rfl rfl rfl) σ) (pa_cons (pv 0) pa_nil)))
      (pss_cons (ps_expr (pe_callS GW hr (by rfl) mW kW bW (fun σ => passAt (takes_of rfl rfl rfl rfl) σ) (pa_cons (pv 1) pa_nil)))
      (pss_cons (ps_if (pt_cmpR (op_neD hr.units) (pe_callS GS hr (by rfl) mS kS bS (fun σ => passAt (takes_of rfl rfl rfl rfl) σ) (pa_cons (pv 0) pa_nil)) (pe_callS GS hr (by rfl) mS kS bS (fun σ => passAt (takes_of rfl rfl rfl rfl) σ) (pa_cons (pv 1) pa_nil)) (nomark _))
        (pss_one (ps_raise rfl (takes_of rfl rfl rfl rfl) (pmk_own PySem.F.excBase_ValueError NP.x NP.g NP.k (raises_own NP.b NP.t) rfl))) pss_nil)
      (pss_one (ps_ret (pe_callB (cr_sum rfl) (by rfl) Z.sum (by decide +kernel) (pa_cons (pe_lc (own := [("row", 2), ("beside", 3)]) (g := gTup K 2 (gCons (gName 2) (gCons (gName 3) gNil))) (tt := tYes) rfl nd (pi_zipG (by rfl) Z.zip (pa_cons (pv 0) (pa_cons (pv 1) pa_nil))) (blkOk_by (N := ["one", "other", "row", "beside"]) (sc := defScope sUnlP) (by decide +kernel))
        (fun _ _ _ _ _ => pg_tup rfl (pgs_cons (pg_name (i := 2) nd rfl (Or.inl rfl)) (pgs_cons (pg_name (i := 3) nd rfl (Or.inl rfl)) pgs_nil)))
        (fun _ _ _ _ _ => pts_nil) (fun _ _ _ _ _ => pe_call GU hr (by rfl) mU kU bU .nil pass0 (pa_cons (pv 2) (pa_cons (pv 3) pa_nil)))) pa_nil)))))), ?_⟩
    refine ⟨.ref a, rfl, .ref a, true, rfl, askPic pr ha, fun _ H1 s1 => ?_, fun e => nomatch e⟩
    refine ⟨.ref b, rfl, .ref b, true, rfl, askPic ps (s1 _ _ hb), fun _ H2 s2 => ?_, fun e => nomatch e⟩
    have s12 := s1.trans s2
    refine ⟨.ref a, rfl, .ref a, rfl, .inr ⟨a, _, rfl, SqT.of (s12 _ _ ha), kn_rows pr, picOk_pic pr, fun p3 H3 s3 n3 h3 => ?_⟩⟩
    refine ⟨.ref b, rfl, .ref b, rfl, .inr ⟨b, _, rfl, SqT.of (s3 _ _ (s12 _ _ hb)), kn_rows ps, picOk_pic ps, fun p4 H4 s4 n4 h4 => ?_⟩⟩
    have sA := (s12.trans s3).trans s4
    have e1 := picSize pr
    have e2 := picSize ps
    refine ⟨.tuple [.int (((rs.map rv).length : Nat) : Int), .int (lenV ((rs.map rv).headD .non))], .tuple [.int (((ss.map rv).length : Nat) : Int), .int (lenV ((ss.map rv).headD .non))], .tup (SqT.of (s4 _ _ h3)) (.cons (.int _) (.cons (.int _) .nil)), .tup (SqT.of h4) (.cons (.int _) (.cons (.int _) .nil)), rfl, rfl, _, rfl, ?_⟩
    rw [e1.1, e1.2, e2.1, e2.2]
    have ee : PyData.eqv (.tuple [.int (high : Int), .int (wide : Int)]) (.tuple [.int (high2 : Int), .int (wide2 : Int)]) = decide (high = high2 ∧ wide = wide2) := by
      apply Bool.eq_iff_iff.mpr
      rw [decide_eq_true_iff]
      simp [PyData.eqv, PyData.eqvAll]
      omega
    rw [ee]
    by_cases hs : high = high2 ∧ wide = wide2
    · rw [decide_eq_true hs]
      refine iteF ?_
      refine ⟨.ref a, rfl, .ref b, rfl, .tup a, .tup b, rs.map rv, ss.map rv, rfl, SqT.of (sA _ _ ha), SqT.of (sA _ _ hb), fun D hD => lc_zipG (K := K) (A := .tup a) (B := .tup b) (xs := rs.map rv) (ys := ss.map rv) ?_
        (fun i H5 => Same H H5 ∧ H5 D = some (.lst ((((rs.zip ss).take i).map fun p => (misZ p.1 p.2 : Int)).map V.int))) ⟨sA.trans (same_upd hD), upd_same⟩ (fun i H5 _ z => ⟨SqT.of (z.1 _ _ ha), SqT.of (z.1 _ _ hb)⟩) ?_ ?_⟩
      · rw [List.length_map, List.length_map, pr.len, ps.len, hs.1]
      · rintro i x y H5 T hx hy ⟨sm, h5⟩ hT
        rw [List.getElem?_map] at hx hy
        obtain ⟨l, hl, rfl⟩ : ∃ l, rs[i]? = some l ∧ x = rv l := by
          cases e : rs[i]? with
          | none =>
            rw [e] at hx
            cases hx
          | some z =>
            rw [e] at hx
            exact ⟨z, rfl, (Option.some.inj hx).symm⟩
        obtain ⟨m, hm, rfl⟩ : ∃ m, ss[i]? = some m ∧ y = rv m := by
          cases e : ss[i]? with
          | none =>
            rw [e] at hy
            cases hy
          | some z =>
            rw [e] at hy
            exact ⟨z, rfl, (Option.some.inj hy).symm⟩
        have hz : (rs.zip ss)[i]? = some (l, m) := List.getElem?_zip_eq_some.mpr ⟨hl, hm⟩
        have sT := same_upd (o := .tup [rv l, rv m]) hT
        have l1 := (pr.row l (List.mem_of_getElem? hl)).len
        have l2 := (ps.row m (List.mem_of_getElem? hm)).len
        have w1 := pr.w1
        have h1' := pr.h1
        have hi : i < rs.length := (List.getElem?_eq_some_iff.mp hl).1
        rw [pr.len] at hi
        refine ⟨T, _, rfl, SqT.of upd_same, rfl, _, _, rfl, _, _, rfl, rfl, rfl, rv l, rfl, rv m, rfl, l, m, rfl, by omega, by omega, fun H6 s6 => ?_⟩
        refine ⟨_, s6 _ _ (sT _ _ h5), ?_, ?_, ?_⟩
        · rw [List.length_map, List.length_map, List.length_take]
          exact small1000 (by omega)
        · exact fun b o e => by
            rw [upd_ne (ne_of_none (sA _ _ e) hD)]
            exact s6 _ _ (sT _ _ (sm _ _ e))
        · rw [upd_same, take_snoc hz, List.map_append, List.map_append]
          rfl
      · rintro H5 ⟨sm, h5⟩
        have e : (rs.zip ss).take (rs.map rv).length = rs.zip ss := by
          apply List.take_of_length_le
          rw [List.length_map, List.length_zip]
          omega
        rw [e] at h5
        exact ⟨D, _, rfl, SqL.of h5, q1 hs H5 sm⟩
    · rw [decide_eq_false hs]
      exact iteT (q2 hs _ sA)
end
end Dt
namespace Dt
open PySem PySem.Spec PyProof.Rows L2 L2X
open SX (S)
/-! ### dots turned over -/
def flipC (c : Nat) : Nat := if c = 35 then 46 else 35
def flipAt (ls : List (List Nat)) (r c : Nat) : List (List Nat) := ls.set r ((ls.getD r []).set c (flipC ((ls.getD r []).getD c 0)))
def flipAll (ls : List (List Nat)) (ps : List (Nat × Nat)) : List (List Nat) := ps.foldl (fun a p => flipAt a p.1 p.2) ls
theorem flip_ok {c : Nat} : flipC c = 35 ∨ flipC c = 46 := by
  unfold flipC
  split
  · exact .inr rfl
  · exact .inl rfl
theorem flipAt_eq {ls : List (List Nat)} {r c x : Nat} {l : List Nat} (h : ls[r]? = some l) (hx : l[c]? = some x) : flipAt ls r c = ls.set r (l.set c (flipC x)) := by
  unfold flipAt
  rw [set_getD h, getD_at hx]
theorem RowsR.flip {high wide r c : Nat} {rs : List (List Nat)} (h : RowsR high wide rs) (hr : r < high) (hc : c < wide) : RowsR high wide (flipAt rs r c) := by
  have hr' : r < rs.length := by rw [h.len]; exact hr
  have e1 : rs[r]? = some rs[r] := List.getElem?_eq_getElem hr'
  have rw1 := h.row rs[r] (List.getElem_mem hr')
  have hc' : c < rs[r].length := by rw [rw1.len]; exact hc
  have e2 : rs[r][c]? = some rs[r][c] := List.getElem?_eq_getElem hc'
  rw [flipAt_eq e1 e2]
  refine ⟨by rw [List.length_set, h.len], fun l hl => ?_⟩
  rcases List.mem_or_eq_of_mem_set hl with q | q
  · exact h.row l q
  · rw [q]
    refine ⟨by rw [List.length_set, rw1.len], fun x hx => ?_⟩
    rcases List.mem_or_eq_of_mem_set hx with q2 | q2
    · exact rw1.sg x q2
    · rw [q2]
      exact flip_ok
theorem RowsR.flips {high wide : Nat} : ∀ {ps : List (Nat × Nat)} {rs : List (List Nat)}, RowsR high wide rs → (∀ p ∈ ps, p.1 < high ∧ p.2 < wide) → RowsR high wide (flipAll rs ps)
  | [], _, h, _ => h
  | p :: ps, rs, h, hp => by
    have h1 := hp p List.mem_cons_self
    exact RowsR.flips (ps := ps) (h.flip h1.1 h1.2) fun q hq => hp q (List.mem_cons_of_mem _ hq)
structure Grid (H : Hp) (g : Addr) (as : List Addr) (ls : List (List Nat)) : Prop where
  top : H g = some (.lst (as.map V.ref))
  len : as.length = ls.length
  row : ∀ (i : Nat) (a : Addr) (l : List Nat), as[i]? = some a → ls[i]? = some l → H a = some (.lst (l.map ch))
  nd : as.Nodup
  off : g ∉ as
theorem Grid.same {H H' : Hp} {g : Addr} {as : List Addr} {ls : List (List Nat)} (G : Grid H g as ls) (s : Same H H') : Grid H' g as ls := ⟨s _ _ G.top, G.len, fun i a l h1 h2 => s _ _ (G.row i a l h1 h2), G.nd, G.off⟩
theorem Grid.put {H : Hp} {g a : Addr} {as : List Addr} {ls : List (List Nat)} {r c x : Nat} {l : List Nat} (G : Grid H g as ls) (ha : as[r]? = some a) (hl : ls[r]? = some l) : Grid (upd H a (.lst ((l.map ch).set c (ch x)))) g as (ls.set r (l.set c x)) := by
  have na : g ≠ a := fun e => G.off (e ▸ List.mem_of_getElem? ha)
  refine ⟨by rw [upd_ne na]; exact G.top, by rw [List.length_set, G.len], fun i b m hb hm => ?_, G.nd, G.off⟩
  by_cases e : i = r
  · subst e
    rw [ha] at hb
    cases hb
    have hlt := (List.getElem?_eq_some_iff.mp hl).1
    rw [List.getElem?_set_self hlt] at hm
    cases hm
    rw [upd_same, List.map_set]
  · rw [List.getElem?_set_ne (Ne.symm e)] at hm
    have nb : b ≠ a := fun q => by
      subst q
      obtain ⟨h1, e1⟩ := List.getElem?_eq_some_iff.mp hb
      obtain ⟨h2, e2⟩ := List.getElem?_eq_some_iff.mp ha
      exact e ((List.getElem_inj G.nd).mp (e1.trans e2.symm))
    rw [upd_ne nb]
    exact G.row i b m hb hm
/-- one more row -/
theorem Grid.add {H : Hp} {g a : Addr} {as : List Addr} {ls : List (List Nat)} {l : List Nat} (G : Grid H g as ls) (hn : H a = none) : Grid (upd (upd H a (.lst (l.map ch))) g (.lst (as.map V.ref ++ [V.ref a]))) g (as ++ [a]) (ls ++ [l]) := by
  have na : g ≠ a := ne_of_none G.top hn
  have old : ∀ b ∈ as, H b ≠ none := fun b hb e => by
    obtain ⟨i, hi⟩ := List.mem_iff_getElem?.mp hb
    have hlt : i < ls.length := by
      rw [← G.len]
      exact (List.getElem?_eq_some_iff.mp hi).1
    have := G.row i b _ hi (List.getElem?_eq_getElem hlt)
    rw [e] at this
    cases this
  have am : a ∉ as := fun h => old a h hn
  refine ⟨?_, by rw [List.length_append, List.length_append, G.len]; rfl, fun i b m hb hm => ?_, ?_, ?_⟩
  · rw [upd_same, List.map_append]
    rfl
  · have nbg : b ≠ g := fun q => by
      subst q
      rcases List.mem_append.mp (List.mem_of_getElem? hb) with z | z
      · exact G.off z
      · exact na (List.mem_singleton.mp z)
    rw [upd_ne nbg]
    by_cases hi : i < as.length
    · rw [List.getElem?_append_left hi] at hb
      rw [List.getElem?_append_left (by rw [← G.len]; exact hi)] at hm
      have nba : b ≠ a := fun q => am (q ▸ List.mem_of_getElem? hb)
      rw [upd_ne nba]
      exact G.row i b m hb hm
    · have hi2 : i = as.length := by
        have := (List.getElem?_eq_some_iff.mp hb).1
        rw [List.length_append, List.length_singleton] at this
        omega
      rw [hi2, List.getElem?_concat_length] at hb
      rw [hi2, G.len, List.getElem?_concat_length] at hm
      cases hb
      cases hm
      rw [upd_same]
  · rw [List.nodup_append]
    exact ⟨G.nd, (by simp), fun x hx y hy e => am (by rw [← List.mem_singleton.mp hy, ← e]; exact hx)⟩
  · intro h
    rcases List.mem_append.mp h with z | z
    · exact G.off z
    · exact na (List.mem_singleton.mp z)
/-- .. and its rows are new -/
structure GridN (H0 H : Hp) (g : Addr) (as : List Addr) (ls : List (List Nat)) : Prop where
  gr : Grid H g as ls
  sm : Same H0 H
  ng : H0 g = none
  nr : ∀ a ∈ as, H0 a = none
theorem GridN.put {H0 H : Hp} {g a : Addr} {as : List Addr} {ls : List (List Nat)} {r c x : Nat} {l : List Nat} (G : GridN H0 H g as ls) (ha : as[r]? = some a) (hl : ls[r]? = some l) : GridN H0 (upd H a (.lst ((l.map ch).set c (ch x)))) g as (ls.set r (l.set c x)) :=
  ⟨G.gr.put ha hl, same_over G.sm (G.nr a (List.mem_of_getElem? ha)), G.ng, G.nr⟩
theorem GridN.add {H0 H : Hp} {g a : Addr} {as : List Addr} {ls : List (List Nat)} {l : List Nat} (G : GridN H0 H g as ls) (hn : H a = none) : GridN H0 (upd (upd H a (.lst (l.map ch))) g (.lst (as.map V.ref ++ [V.ref a]))) g (as ++ [a]) (ls ++ [l]) := by
  have na := G.sm.free hn
  refine ⟨G.gr.add hn, same_over (same_over G.sm na) G.ng, G.ng, fun b hb => ?_⟩
  rcases List.mem_append.mp hb with z | z
  · exact G.nr b z
  · rw [List.mem_singleton.mp z]
    exact na
theorem GridN.same {H0 H H' : Hp} {g : Addr} {as : List Addr} {ls : List (List Nat)} (G : GridN H0 H g as ls) (s : Same H H') : GridN H0 H' g as ls := ⟨G.gr.same s, G.sm.trans s, G.ng, G.nr⟩
theorem GridN.same' {H0 H : Hp} {g E : Addr} {as : List Addr} {ls : List (List Nat)} {xs ys : List V} (G : GridN H0 H g as ls) (_ : H E = some (.lst xs)) (n1 : g ≠ E) (n2 : ∀ a ∈ as, a ≠ E) (n3 : H0 E = none) : GridN H0 (upd H E (.lst ys)) g as ls :=
  ⟨⟨by rw [upd_ne n1]; exact G.gr.top, G.gr.len, fun i a l h1 h2 => by rw [upd_ne (n2 a (List.mem_of_getElem? h1))]; exact G.gr.row i a l h1 h2, G.gr.nd, G.gr.off⟩, same_over G.sm n3, G.ng, G.nr⟩
end Dt
namespace L2X
open PySem PySem.Spec PyProof.Rows L2
/-- i ** 3 of an int of any decent size -/
def CPow3 (i j : Int) : Prop := j = 3 ∧ i.natAbs < 2 ^ 1000
theorem op_pow3 {X : Cx} : OpR X (binaryOp .Pow) (rI CPow3 fun i j => .int (i ^ j.toNat)) := opI fun i j _ _ _ _ _ hc q => by
  obtain ⟨rfl, h⟩ := hc
  refine pow_int (by decide) ?_ q
  have z := PyProof.Rows.intBits_le h
  omega
end L2X
namespace Dt
open PySem PySem.Spec PyProof.Rows L2 L2X
open SX (S)
/-! ### the drawing list -/
def Du (H : Hp) (d : Addr) (n : Nat) : Prop := ∃ a b t : Int, H d = some (.lst [.int a, .int b, .int t]) ∧ 0 ≤ t ∧ t ≤ (n : Int)
/-- all but d stays -/
def Do (d : Addr) (H H' : Hp) : Prop := ∀ b o, H b = some o → b ≠ d → H' b = some o
theorem Do.refl {d : Addr} {H : Hp} : Do d H H := fun _ _ e _ => e
theorem Do.trans {d : Addr} {H H1 H2 : Hp} (a : Do d H H1) (b : Do d H1 H2) : Do d H H2 := fun x o e h1 => b x o (a x o e h1) h1
theorem Do.same {d : Addr} {H H' : Hp} (a : Same H H') : Do d H H' := fun b o e _ => a b o e
theorem Du.same {H H' : Hp} {d : Addr} {n : Nat} (D : Du H d n) (s : Same H H') : Du H' d n := by
  obtain ⟨a, b, t, h, h0, h1⟩ := D
  exact ⟨a, b, t, s _ _ h, h0, h1⟩
theorem Du.le {H : Hp} {d : Addr} {n m : Nat} (D : Du H d n) (l : n ≤ m) : Du H d m := by
  obtain ⟨a, b, t, h, h0, h1⟩ := D
  exact ⟨a, b, t, h, h0, by omega⟩
theorem Du.new {H : Hp} {d p : Addr} {n : Nat} (D : Du H d n) (h : H p = none) : p ≠ d := by
  obtain ⟨a, b, t, e, _⟩ := D
  exact fun z => by (rw [z, e] at h; cases h)
theorem Du.upd {H : Hp} {d p : Addr} {n : Nat} {o : HO} (D : Du H d n) (h : p ≠ d) : Du (upd H p o) d n := by
  obtain ⟨a, b, t, e, h0⟩ := D
  exact ⟨a, b, t, by rw [upd_ne h.symm]; exact e, h0⟩
theorem Do.nn {d p : Addr} {n : Nat} {H H' : Hp} (a : Do d H H') (D : Du H' d n) (h : H' p = none) : H p = none := by
  cases e : H p with
  | none => rfl
  | some o =>
    rw [a _ _ e (D.new h)] at h
    cases h
/-- what was under no watch ahead may change -/
theorem Do.upd {d p : Addr} {H H' : Hp} {o : HO} (a : Do d H H') (h : H p = none) : Do d H (upd H' p o) := fun b u e n => by
  rw [upd_ne (ne_of_none e h)]
  exact a _ _ e n
def fuel : Nat := 1000000000000
abbrev sNx : Stmt := topS 40
theorem scNx : FnScope ["draw", "below", "found"] ["draw", "below"] (defScope sNx) := ⟨rfl, rfl, rfl, by decide +kernel, rfl, by decide +kernel, by decide +kernel⟩
def spNx : Sp := fun vs H Q _ => ∃ (d : Addr) (b : Int) (n : Nat), vs = [.ref d, .int b] ∧ Du H d n ∧ n ≤ fuel ∧ 0 < b ∧ b < 1073741824 ∧ ∀ (m : Int) (H' : Hp), 0 ≤ m → m < b → Du H' d (n + 1) → Do d H H' → Q (.int m) H'
abbrev sPk : Stmt := topS 41
theorem scPk : FnScope ["draw", "some"] ["draw", "some"] (defScope sPk) := ⟨rfl, rfl, rfl, by decide +kernel, rfl, by decide +kernel, by decide +kernel⟩
/-- of a list, or of a text -/
def spPk (K : PySem.W.Frag) : Sp := fun vs H Q _ => ∃ (d : Addr) (x : V) (n : Nat), vs = [.ref d, x] ∧ Du H d n ∧ n ≤ fuel ∧
  ((∃ (l : Addr) (xs : List V), x = .ref l ∧ l ≠ d ∧ H l = some (.lst xs) ∧ 0 < xs.length ∧ xs.length ≤ 1000 ∧ ∀ (j : Nat) (y : V) (H' : Hp), xs[j]? = some y → Du H' d (n + 1) → Do d H H' → Q y H') ∨
   (∃ (z : Str), x = .str z ∧ 0 < z.length ∧ z.length ≤ 1000 ∧ ∀ (c : Nat) (H' : Hp), c ∈ z.cps.toList → Du H' d (n + 1) → Do d H H' → Q (.str ⟨#[c]⟩) H'))
abbrev sBg : Stmt := topS 39
theorem scBg : FnScope ["cell", "k"] ["cell", "k"] (defScope sBg) := ⟨rfl, rfl, rfl, by decide +kernel, rfl, by decide +kernel, by decide +kernel⟩
def spBg : Sp := fun vs H Q _ => ∃ (c k : Int), vs = [.int c, .int k] ∧ 0 ≤ k ∧ k ≤ 1000 ∧ ∀ (d : Addr) (H' : Hp), H d = none → Same H H' → Du H' d 0 → Q (.ref d) H'
theorem small_bits {a b : Nat} {i : Int} (h0 : 0 ≤ i) (h1 : i < (b : Int)) (hb : b ≤ 2 ^ a) : i.natAbs < 2 ^ a := by omega
section
variable {P : Program} {w : World} {K : PySem.W.Frag} {mg : Str → Option Value} {base : Heap}
theorem ok_nx {f : Addr} {fd : FuncData} {k : Nat} (F : Fun K "_law_next" "_law_next" sNx f fd) : FnOk P w K mg base CX0 (k + 1) f fd ["draw", "below"] spNx := by
  refine F.ok scNx (fun vs H Q E h => ?_) (fun cdv A outer s H vs Q E hr h => ?_)
  · obtain ⟨d, b, n, rfl, _⟩ := h
    rfl
  · obtain ⟨d, b, n, rfl, D, hn, hb0, hb1, q⟩ := h
    have nd := scNx.nd
    refine ⟨_, pss_cons (ps_if (pt_cmpR op_gt (pe_ix ix_list (pv 0) pe_int (fun _ _ => rfl)) pe_int (nomark _))
        (pss_cons (ps_set (i := 2) nd rfl (.inl rfl) (pe_op op_mod (pe_ix ix_list (pv 0) pe_int (fun _ _ => rfl)) (pv 1)))
        (pss_cons (ps_asg (pe_op op_fdiv (pe_ix ix_list (pv 0) pe_int (fun _ _ => rfl)) (pv 1)) (pg_sub (pv 0) pe_int set_list))
        (pss_one (ps_ret (pv 2))))) pss_nil)
      (pss_cons (ps_asg (pe_op op_add (pe_ix ix_list (pv 0) pe_int (fun _ _ => rfl)) pe_int) (pg_sub (pv 0) pe_int set_list))
      (pss_cons (ps_set (i := 2) nd rfl (.inl rfl) (pe_op op_add (pe_op op_mod (pe_ix ix_list (pv 0) pe_int (fun _ _ => rfl)) pe_int) (pe_op op_mul pe_int (pe_ix ix_list (pv 0) pe_int (fun _ _ => rfl)))))
      (pss_cons (ps_set (i := 2) nd rfl (.inl rfl) (pe_op op_mulX (pv 2) (pe_op op_add (pe_op op_add (pe_op op_mod (pe_ix ix_list (pv 0) pe_int (fun _ _ => rfl)) pe_int) (pe_op op_mulX (pe_op op_mul pe_int (pe_ix ix_list (pv 0) pe_int (fun _ _ => rfl))) (pe_ix ix_list (pv 0) pe_int (fun _ _ => rfl)))) pe_int)))
      (pss_one (ps_ret (pe_op op_mod (pe_op op_fdiv (pe_op op_mod (pe_op op_pow3 (pv 2) pe_int) pe_int) pe_int) (pv 1))))))), ?_⟩
    obtain ⟨a, e, t, hd, t0, t1⟩ := id D
    refine ⟨.ref d, rfl, d, _, 0, .int a, rfl, rfl, SqL.of hd, rfl, a, 0, rfl, rfl, _, rfl, ite2 (fun e1 => ?_) (fun e1 => ?_)⟩
    · refine ⟨.ref d, rfl, d, _, 0, .int a, rfl, rfl, SqL.of hd, rfl, .int b, rfl, a, b, rfl, rfl, hb0, ?_⟩
      refine ⟨.ref d, rfl, d, _, 0, .int a, rfl, rfl, SqL.of hd, rfl, .int b, rfl, a, b, rfl, rfl, ⟨hb0, hb1⟩, ?_⟩
      refine ⟨.ref d, rfl, d, _, 0, 0, rfl, rfl, hd, rfl, .int (a % b), rfl, q _ _ (Int.emod_nonneg _ (by omega)) (Int.emod_lt_of_pos _ hb0) ⟨a / b, e, t, upd_same, t0, by omega⟩ ?_⟩
      intro b' o e' n'
      rw [upd_ne n']
      exact e'
    · refine ⟨.ref d, rfl, d, _, 2, .int t, rfl, rfl, SqL.of hd, rfl, t, 1, rfl, rfl, ?_⟩
      refine ⟨.ref d, rfl, d, _, 2, 2, rfl, rfl, hd, rfl, ?_⟩
      have hd2 : (upd H d (.lst [V.int a, V.int e, V.int (t + 1)])) d = some (.lst [V.int a, V.int e, V.int (t + 1)]) := upd_same
      have fu : n ≤ 1000000000000 := hn
      have m0 := Int.emod_nonneg e (show (2147483629 : Int) ≠ 0 by decide)
      have m1 := Int.emod_lt_of_pos e (show (0 : Int) < 2147483629 by decide)
      have l0 := Int.emod_nonneg e (show (2147483587 : Int) ≠ 0 by decide)
      have l1 := Int.emod_lt_of_pos e (show (0 : Int) < 2147483587 by decide)
      refine ⟨.ref d, rfl, d, _, 1, .int e, rfl, rfl, SqL.of hd2, rfl, e, 2147483629, rfl, rfl, (by show (0 : Int) < 2147483629; decide), ?_⟩
      refine ⟨.ref d, rfl, d, _, 2, .int (t + 1), rfl, rfl, SqL.of hd2, rfl, 104729, t + 1, rfl, rfl, .inl ⟨by decide, by decide⟩, _, _, rfl, rfl, ?_⟩
      have f0 : 0 ≤ e % 2147483629 + 104729 * (t + 1) := by omega
      have f1 : e % 2147483629 + 104729 * (t + 1) < 1000000000000000000000 := by omega
      obtain ⟨F, hF⟩ : ∃ F, F = e % 2147483629 + 104729 * (t + 1) := ⟨_, rfl⟩
      rw [← hF] at f0 f1
      refine ⟨.int F, congrArg (fun z => some (some (V.int z))) hF.symm, .ref d, rfl, d, _, 1, .int e, rfl, rfl, SqL.of hd2, rfl, e, 2147483587, rfl, rfl, (by show (0 : Int) < 2147483587; decide), ?_⟩
      refine ⟨.ref d, rfl, d, _, 2, .int (t + 1), rfl, rfl, SqL.of hd2, rfl, 7919, t + 1, rfl, rfl, .inl ⟨by decide, by decide⟩, ?_⟩
      refine ⟨.ref d, rfl, d, _, 2, .int (t + 1), rfl, rfl, SqL.of hd2, rfl, _, _, rfl, rfl, mulx_ok (a := 64) (b := 64) (by omega) (by omega) (by decide), _, _, rfl, rfl, _, _, rfl, rfl, _, _, rfl, rfl, ?_⟩
      have g0 : 0 ≤ 7919 * (t + 1) * (t + 1) := Int.mul_nonneg (by omega) (by omega)
      have g1 : 7919 * (t + 1) * (t + 1) ≤ (7919 * 1000000000001) * 1000000000001 := Int.mul_le_mul (by omega) (by omega) (by omega) (by omega)
      generalize 7919 * (t + 1) * (t + 1) = G at g0 g1 ⊢
      refine ⟨mulx_ok (a := 100) (b := 100) (by omega) (by omega) (by decide), ?_⟩
      have h0 : 0 ≤ F * (e % 2147483587 + G + 11) := Int.mul_nonneg f0 (by omega)
      have h1 : F * (e % 2147483587 + G + 11) ≤ 1000000000000000000000 * 10000000000000000000000000000000 := Int.mul_le_mul (by omega) (by omega) (by omega) (by omega)
      obtain ⟨M, hM⟩ : ∃ M, M = F * (e % 2147483587 + G + 11) := ⟨_, rfl⟩
      rw [← hM] at h0 h1
      have big : M.natAbs < 2 ^ 1000 := by
        have : (1000000000000000000000 * 10000000000000000000000000000000 : Nat) < 2 ^ 1000 := by decide +kernel
        omega
      have mm0 := Int.emod_nonneg (M ^ 3) (show (2147483647 : Int) ≠ 0 by decide)
      have mm1 := Int.emod_lt_of_pos (M ^ 3) (show (0 : Int) < 2147483647 by decide)
      refine ⟨.int M, congrArg (fun z => some (some (V.int z))) hM.symm, M, 3, rfl, rfl, ⟨rfl, big⟩, _, _, rfl, rfl, (by show (0 : Int) < 2147483647; decide), _, _, rfl, rfl, ⟨by decide, by decide⟩, .int b, rfl, _, _, rfl, rfl, hb0, q _ _ (Int.emod_nonneg _ (by omega)) (Int.emod_lt_of_pos _ hb0) ⟨a, e, t + 1, hd2, by omega, by omega⟩ ?_⟩
      intro b' o e' n'
      rw [upd_ne n']
      exact e'
theorem ok_bg {f : Addr} {fd : FuncData} {k : Nat} (F : Fun K "_law_begun" "_law_begun" sBg f fd) (mx : mg "max" = none) : FnOk P w K mg base CX0 (k + 1) f fd ["cell", "k"] spBg := by
  refine F.ok scBg (fun vs H Q E h => ?_) (fun cdv A outer s H vs Q E hr h => ?_)
  · obtain ⟨c, k, rfl, _⟩ := h
    rfl
  · obtain ⟨c, k, rfl, k0, k1, q⟩ := h
    refine ⟨_, pss_one (ps_ret (pe_lst (pa_cons (pe_callB (call_max2 rfl) (by rfl) mx (by decide +kernel) (pa_cons pe_int (pa_cons (pe_op op_sub (pv 0) (pe_op op_pow pe_int pe_int)) pa_nil))) (pa_cons (pe_op op_add (pv 0) (pe_op op_mul pe_int (pv 1))) (pa_cons pe_int pa_nil))))), ?_⟩
    refine ⟨.int c, rfl, 10, 18, rfl, rfl, ⟨by decide, by decide, by decide⟩, c, _, rfl, rfl, 0, _, rfl, .int c, rfl, .int k, rfl, 977, k, rfl, rfl, .inl ⟨by decide, by decide⟩, c, _, rfl, rfl, by show 3 ≤ sizeLine; decide, fun l hl => ?_⟩
    exact q l _ hl (same_upd hl) ⟨_, _, 0, upd_same, Int.le_refl _, Int.le_refl _⟩
theorem ok_pk {f : Addr} {fd : FuncData} {k : Nat} (F : Fun K "_law_pick" "_law_pick" sPk f fd) (T : Tx mg) (fN : Addr) (fdN : FuncData) (GN : FnOk P w K mg base CX0 (k + 1) fN fdN ["draw", "below"] spNx) (mN : mg "_law_next" = some (.ref fN)) (kN : PySem.W.keepIn K (.ref fN) = true) (bN : Binds K fdN ["draw", "below"] []) : FnOk P w K mg base CX0 (k + 2) f fd ["draw", "some"] (spPk K) := by
  refine F.ok scPk (fun vs H Q E h => ?_) (fun cdv A outer s H vs Q E hr h => ?_)
  · obtain ⟨d, x, n, rfl, _⟩ := h
    rfl
  · obtain ⟨d, x, n, rfl, D, hn, h⟩ := h
    have hu := hu_of hr
    rcases h with ⟨l, xs, rfl, nl, hl, x0, x1, q⟩ | ⟨z, rfl, z0, z1, q⟩
    · refine ⟨_, pss_one (ps_ret (pe_ix ix_list (pv 1) (pe_call GN hr (by rfl) mN kN bN .nil pass0 (pa_cons (pv 0) (pa_cons (pe_callB call_len_seq (by rfl) T.len PySem.boot_len (pa_cons (pv 1) pa_nil)) pa_nil))) (fun _ _ => rfl))), ?_⟩
      refine ⟨.ref l, rfl, .ref d, rfl, .ref l, rfl, l, xs, rfl, .inl (SqL.of hl), d, (xs.length : Int), n, rfl, D, hn, by omega, by omega, fun m H1 m0 m1 D1 dn1 => ?_⟩
      obtain ⟨j, rfl⟩ := Int.eq_ofNat_of_zero_le m0
      have hj : j < xs.length := by omega
      have hx : xs[j]? = some xs[j] := List.getElem?_eq_getElem hj
      exact ⟨l, xs, (j : Int), xs[j], rfl, rfl, SqL.of (dn1 _ _ hl nl), atI_nat hx, q j _ H1 hx D1 dn1⟩
    · refine ⟨_, pss_one (ps_ret (pe_ix ix_str (pv 1) (pe_call GN hr (by rfl) mN kN bN .nil pass0 (pa_cons (pv 0) (pa_cons (pe_callB call_len_str (by rfl) T.len PySem.boot_len (pa_cons (pv 1) pa_nil)) pa_nil))) (fun _ _ => rfl))), ?_⟩
      have zs : z.length ≤ sizeLine := Nat.le_of_lt (small1000 z1)
      refine ⟨.str z, rfl, .ref d, rfl, .str z, rfl, z, rfl, zs, d, (z.length : Int), n, rfl, D, hn, by omega, by omega, fun m H1 m0 m1 D1 dn1 => ?_⟩
      obtain ⟨j, rfl⟩ := Int.eq_ofNat_of_zero_le m0
      have hj : j < z.cps.toList.length := by
        have : z.cps.toList.length = z.length := by simp [Str.length]
        omega
      have hx : z.cps.toList[j]? = some z.cps.toList[j] := List.getElem?_eq_getElem hj
      exact ⟨z, (j : Int), _, rfl, rfl, zs, atI_nat hx, q _ H1 (List.getElem_mem hj) D1 dn1⟩
end
end Dt
namespace Dt
open PySem PySem.Spec PyProof.Rows L2 L2X
open SX (S)
theorem map_at2 {α : Type} {f : α → V} {l : List α} {i : Nat} {x : V} (h : (l.map f)[i]? = some x) : ∃ a, l[i]? = some a ∧ x = f a := by
  rw [List.getElem?_map] at h
  cases e : l[i]? with
  | none =>
    rw [e] at h
    cases h
  | some z =>
    rw [e] at h
    exact ⟨z, rfl, (Option.some.inj h).symm⟩
abbrev sPc : Stmt := topS 42
abbrev nPc : List Str := ["draw", "high", "wide", "dense", "rows", "row", "column"]
theorem scPc : FnScope nPc ["draw", "high", "wide", "dense"] (defScope sPc) := ⟨rfl, rfl, rfl, by decide +kernel, rfl, by decide +kernel, by decide +kernel⟩
def spPc : Sp := fun vs H Q _ => ∃ (d : Addr) (high wide n : Nat) (dense : Int), vs = [.ref d, .int high, .int wide, .int dense] ∧ Du H d n ∧ n + 20000 ≤ fuel ∧ 1 ≤ high ∧ high ≤ 60 ∧ 1 ≤ wide ∧ wide ≤ 120 ∧
  ∀ (p : Addr) (rs : List (List Nat)) (H' : Hp), PicR high wide rs → H p = none → H' p = some (.tup (rs.map rv)) → Du H' d (n + 20000) → Do d H H' → Q (.ref p) H'
abbrev sNr : Stmt := topS 43
abbrev nNr : List Str := ["draw", "picture", "rows", "turn", "at", "column", "row"]
theorem scNr : FnScope nNr ["draw", "picture"] (defScope sNr) := ⟨rfl, rfl, rfl, by decide +kernel, rfl, by decide +kernel, by decide +kernel⟩
def spNr : Sp := fun vs H Q _ => ∃ (d a : Addr) (high wide n : Nat) (rs : List (List Nat)), vs = [.ref d, .ref a] ∧ Du H d n ∧ n + 10 ≤ fuel ∧ H a = some (.tup (rs.map rv)) ∧ PicR high wide rs ∧
  ∀ (p : Addr) (rs' : List (List Nat)) (H' : Hp), PicR high wide rs' → H p = none → H' p = some (.tup (rs'.map rv)) → Du H' d (n + 10) → Do d H H' → Q (.ref p) H'
theorem Grid.dn {H H' : Hp} {d g : Addr} {as : List Addr} {ls : List (List Nat)} (G : Grid H g as ls) (s : Do d H H') (ng : g ≠ d) (na : ∀ a ∈ as, a ≠ d) : Grid H' g as ls :=
  ⟨s _ _ G.top ng, G.len, fun i a l h1 h2 => s _ _ (G.row i a l h1 h2) (na a (List.mem_of_getElem? h1)), G.nd, G.off⟩
/-- rows under work, new since H0, the drawing list at d -/
structure GridD (d : Addr) (H0 H : Hp) (g : Addr) (as : List Addr) (ls : List (List Nat)) : Prop where
  gr : Grid H g as ls
  sm : Do d H0 H
  ng : H0 g = none
  nr : ∀ a ∈ as, H0 a = none
  gd : g ≠ d
  ad : ∀ a ∈ as, a ≠ d
theorem GridD.dn {d : Addr} {H0 H H' : Hp} {g : Addr} {as : List Addr} {ls : List (List Nat)} (G : GridD d H0 H g as ls) (s : Do d H H') : GridD d H0 H' g as ls := ⟨G.gr.dn s G.gd G.ad, G.sm.trans s, G.ng, G.nr, G.gd, G.ad⟩
theorem GridD.put {d : Addr} {H0 H : Hp} {g a : Addr} {as : List Addr} {ls : List (List Nat)} {r c x : Nat} {l : List Nat} (G : GridD d H0 H g as ls) (ha : as[r]? = some a) (hl : ls[r]? = some l) : GridD d H0 (upd H a (.lst ((l.map ch).set c (ch x)))) g as (ls.set r (l.set c x)) :=
  ⟨G.gr.put ha hl, G.sm.upd (G.nr a (List.mem_of_getElem? ha)), G.ng, G.nr, G.gd, G.ad⟩
theorem GridD.same' {d : Addr} {H0 H : Hp} {g E : Addr} {as : List Addr} {ls : List (List Nat)} {ys : List V} (G : GridD d H0 H g as ls) (n1 : g ≠ E) (n2 : ∀ a ∈ as, a ≠ E) (n3 : H0 E = none) : GridD d H0 (upd H E (.lst ys)) g as ls :=
  ⟨⟨by rw [upd_ne n1]; exact G.gr.top, G.gr.len, fun i a l h1 h2 => by rw [upd_ne (n2 a (List.mem_of_getElem? h1))]; exact G.gr.row i a l h1 h2, G.gr.nd, G.gr.off⟩, G.sm.upd n3, G.ng, G.nr, G.gd, G.ad⟩
theorem Grid.none {H : Hp} {g E : Addr} {as : List Addr} {ls : List (List Nat)} (G : Grid H g as ls) (hE : H E = none) : g ≠ E ∧ ∀ a ∈ as, a ≠ E := by
  refine ⟨fun e => ?_, fun a ha e => ?_⟩
  · have n1 := G.top
    rw [e, hE] at n1
    cases n1
  · subst e
    obtain ⟨j, hj⟩ := List.mem_iff_getElem?.mp ha
    have hlt : j < ls.length := by
      rw [← G.len]
      exact (List.getElem?_eq_some_iff.mp hj).1
    have n1 := G.row j _ _ hj (List.getElem?_eq_getElem hlt)
    rw [hE] at n1
    cases n1
theorem RowsR.put {high wide r c x : Nat} {ls : List (List Nat)} {l : List Nat} (R : RowsR high wide ls) (hl : ls[r]? = some l) (hx : x = 35 ∨ x = 46) : RowsR high wide (ls.set r (l.set c x)) := by
  refine ⟨by rw [List.length_set, R.len], fun m hm => ?_⟩
  rcases List.mem_or_eq_of_mem_set hm with q | q
  · exact R.row m q
  · subst q
    have rl := R.row l (List.mem_of_getElem? hl)
    refine ⟨by rw [List.length_set, rl.len], fun y hy => ?_⟩
    rcases List.mem_or_eq_of_mem_set hy with q2 | q2
    · exact rl.sg y q2
    · rw [q2]
      exact hx
theorem dot_hash (b : Bool) : ∃ c : Nat, (c = 35 ∨ c = 46) ∧ atI (".#" : Str).cps.toList (if b = true then 1 else 0) = some c := by
  cases b with
  | true => exact ⟨35, .inl rfl, by decide +kernel⟩
  | false => exact ⟨46, .inr rfl, by decide +kernel⟩
section
variable {P : Program} {w : World} {K : PySem.W.Frag} {mg : Str → Option Value} {base : Heap}
theorem ok_pc {f : Addr} {fd : FuncData} {k : Nat} (F : Fun K "_law_picture" "_law_picture" sPc f fd) (T : Tx mg) (GN : Pm P w K mg base CX0 (k + 1) "_law_next" ["draw", "below"] spNx) : FnOk P w K mg base CX0 (k + 2) f fd ["draw", "high", "wide", "dense"] spPc := by
  obtain ⟨fN, fdN, GN, mN, kN, bN⟩ := GN.ex
  refine F.ok scPc (fun vs H Q E h => ?_) (fun cdv A outer s H vs Q E hr h => ?_)
  · obtain ⟨d, high, wide, n, dense, rfl, _⟩ := h
    rfl
  · obtain ⟨d, high, wide, n, dense, rfl, D, hn, h0, h1, w0, w1, q⟩ := h
    have nd := scPc.nd
    refine ⟨_, pss_cons (ps_set (i := 4) nd rfl (.inl rfl) (pe_lst pa_nil))
      (pss_cons (ps_for PassesOwn.never rfl (pi_range1 rfl T.range (pa_cons (pv 1) pa_nil)) (pg_name (i := 5) nd rfl (.inl rfl))
        (pss_one (ps_expr (pe_bm PySem.F.plainAttrs_list PySem.F.slot_list_append PySem.F.type_list_append mt_append (pv 4) (pa_cons (pe_join pe_str (pe_lc (own := [("column", 6)]) (g := gName 6) (tt := tYes) rfl nd (pi_range1 rfl T.range (pa_cons (pv 2) pa_nil)) (blkOk_by (N := nPc) (sc := defScope sPc) (by decide +kernel)) (fun _ _ _ _ _ => pg_name (i := 6) nd rfl (Or.inl rfl)) (fun _ _ _ _ _ => pts_nil)
            (fun _ _ _ _ _ => pe_ix ix_str pe_str (pe_callTy call_int1 (by rfl) T.int (by decide +kernel) (pa_cons (pe_cmpR op_lt (pe_call GN hr (by rfl) mN kN bN .nil pass0 (pa_cons (pv 0) (pa_cons pe_int pa_nil))) (pv 3) (nomark _)) pa_nil)) (fun _ _ => rfl)))) pa_nil)))))
      (pss_one (ps_ret (pe_callTy call_tuple_of (by rfl) T.tuple (by decide +kernel) (pa_cons (pv 4) pa_nil))))), ?_⟩
    have b1 : (-(2 ^ 62) : Int) ≤ (high : Int) ∧ (high : Int) < 2 ^ 62 := ⟨by omega, by omega⟩
    have b2 : (-(2 ^ 62) : Int) ≤ (wide : Int) ∧ (wide : Int) < 2 ^ 62 := ⟨by omega, by omega⟩
    refine ⟨by show 0 ≤ sizeLine; decide, fun l hl => ?_⟩
    have sl := same_upd (o := .lst []) hl
    have nld := D.new hl
    refine ⟨.int high, rfl, high, rfl, b1.1, b1.2, for_range (lo := 0) (n := high) (fun i σ H2 => ∃ (y5 : Option V) (rs : List (List Nat)), σ = [some (.ref d), some (.int high), some (.int wide), some (.int dense), some (.ref l), y5, none] ∧ rs.length = i ∧ (∀ r ∈ rs, RowR wide r) ∧ H2 l = some (.lst (rs.map rv)) ∧ Du H2 d (n + 200 * i) ∧ Do d H H2)
      ⟨none, [], rfl, rfl, (fun _ h => nomatch h), upd_same, (D.same sl).le (by omega), Do.same sl⟩ ?_ ?_⟩
    · rintro i σ H2 hi ⟨y5, rs, rfl, hrl, hrow, h2l, D2, dn2⟩
      refine ⟨.ref l, rfl, .inl ⟨rfl, _, SqL.of h2l⟩, ⟨_, rfl⟩, .int wide, rfl, wide, rfl, b2.1, b2.2, fun Dd hDd => lc_range (lo := 0) (n := wide) (fun j H3 => ∃ cs : List Nat, cs.length = j ∧ (∀ c ∈ cs, c = 35 ∨ c = 46) ∧ H3 Dd = some (.lst (cs.map fun c => rv [c])) ∧ H3 l = some (.lst (rs.map rv)) ∧ Du H3 d (n + 200 * i + j) ∧ Do d H H3) ?_ ?_ ?_⟩
      · have sD := same_upd (o := .lst []) hDd
        exact ⟨[], rfl, (fun _ h => nomatch h), upd_same, sD _ _ h2l, D2.same sD, dn2.trans (Do.same sD)⟩
      · rintro j H3 hj ⟨cs, hcl, hcs, h3D, h3l, D3, dn3⟩
        have nDd := D2.new hDd
        have fu : n + 20000 ≤ 1000000000000 := hn
        refine ⟨rfl, .ref d, rfl, d, 10, _, rfl, D3, (by show _ ≤ 1000000000000; omega), by decide, by decide, fun m H4 m0 m1 D4 dn4 => ⟨.int dense, rfl, m, dense, rfl, rfl, .inr ⟨_, rfl, ?_⟩⟩⟩
        obtain ⟨c, hc, hat⟩ := dot_hash (decide (m < dense))
        refine ⟨".#", _, c, rfl, rfl, by decide +kernel, hat, ?_⟩
        have h4D := dn4 _ _ h3D nDd
        have h4l := dn4 _ _ h3l nld
        have nDl : Dd ≠ l := (ne_of_none h2l hDd).symm
        refine ⟨_, h4D, ?_, cs ++ [c], ?_, ?_, ?_, ?_, ?_, ?_⟩
        · rw [List.length_map]
          exact small1000 (by omega)
        · rw [List.length_append, hcl]
          rfl
        · intro y hy
          rcases List.mem_append.mp hy with z | z
          · exact hcs y z
          · rw [List.mem_singleton.mp z]
            exact hc
        · rw [upd_same, List.map_append]
          rfl
        · rw [upd_ne nDl.symm]
          exact h4l
        · exact D4.upd nDd
        · exact (dn3.trans dn4).upd (dn2.nn D2 hDd)
      · rintro H3 ⟨cs, hcl, hcs, h3D, h3l, D3, dn3⟩
        have rowcs : RowR wide cs := ⟨hcl, hcs⟩
        refine ⟨"", Dd, cs.map fun c => S [c], rfl, rfl, .inl (SqL.of ?_), ?_, ?_⟩
        · rw [h3D, List.map_map]
          rfl
        · rw [lens_ones]
          show cs.length + _ * 0 ≤ 16777216
          omega
        · rw [join_ones]
          refine ⟨l, _, _, rfl, rfl, h3l, ?_, ?_⟩
          · rw [List.length_map]
            exact small1000 (by omega)
          · refine ⟨_, rs ++ [cs], rfl, ?_, ?_, ?_, ?_, ?_⟩
            · rw [List.length_append, hrl]
              rfl
            · intro y hy
              rcases List.mem_append.mp hy with z | z
              · exact hrow y z
              · rw [List.mem_singleton.mp z]
                exact rowcs
            · rw [upd_same, List.map_append]
              rfl
            · exact (D3.upd nld).le (by omega)
            · exact dn3.upd hl
    · rintro σ H2 ⟨y5, rs, rfl, hrl, hrow, h2l, D2, dn2⟩
      refine ⟨.ref l, rfl, l, _, rfl, .inl ⟨SqL.of h2l, fun p hp => ?_⟩⟩
      have sp := same_upd (o := .tup (rs.map rv)) hp
      exact q p rs _ ⟨hrl, hrow, h0, h1, w0, w1⟩ (dn2.nn D2 hp) upd_same ((D2.same sp).le (by omega)) (dn2.trans (Do.same sp))
theorem ok_nr {f : Addr} {fd : FuncData} {k : Nat} (F : Fun K "_law_near" "_law_near" sNr f fd) (T : Tx mg) (GN : Pm P w K mg base CX0 (k + 1) "_law_next" ["draw", "below"] spNx) : FnOk P w K mg base CX0 (k + 2) f fd ["draw", "picture"] spNr := by
  obtain ⟨fN, fdN, GN, mN, kN, bN⟩ := GN.ex
  refine F.ok scNr (fun vs H Q E h => ?_) (fun cdv A outer s H vs Q E hr h => ?_)
  · obtain ⟨d, a, high, wide, n, rs, rfl, _⟩ := h
    rfl
  · obtain ⟨d, a, high, wide, n, rs, rfl, D, hn, ha, pr, k⟩ := h
    have nd := scNr.nd
    refine ⟨_, pss_cons (ps_setLc (i := 2) (own := [("row", 6)]) (g := gName 6) (tt := tYes) (by rfl) nd rfl rfl (sw_true rfl rfl rfl (by decide +kernel)) (pi_tup (pv 1)) (blkOk_by (N := nNr) (sc := defScope sNr) (by decide +kernel)) (fun _ _ _ _ _ => pg_name (i := 6) nd rfl (Or.inl rfl)) (fun _ _ _ _ _ => pts_nil)
          (fun _ _ _ _ _ => pe_callTy (call_listS rfl) (by rfl) T.list (by decide +kernel) (pa_cons (pv 6) pa_nil)))
      (pss_cons (ps_for PassesOwn.never rfl (pi_range1 rfl T.range (pa_cons (pe_op op_add pe_int (pe_call GN hr (by rfl) mN kN bN .nil pass0 (pa_cons (pv 0) (pa_cons pe_int pa_nil)))) pa_nil)) (pg_name (i := 3) nd rfl (.inl rfl))
        (pss_cons (ps_par (i := 4) (j := 5) (by rfl) nd rfl rfl (by decide) rfl rfl (pa_cons (pe_call GN hr (by rfl) mN kN bN .nil pass0 (pa_cons (pv 0) (pa_cons (pe_callB call_len_seq (by rfl) T.len PySem.boot_len (pa_cons (pv 2) pa_nil)) pa_nil))) (pa_cons (pe_call GN hr (by rfl) mN kN bN .nil pass0 (pa_cons (pv 0) (pa_cons (pe_callB call_len_seq (by rfl) T.len PySem.boot_len (pa_cons (pe_ix ix_list (pv 2) pe_int (fun _ _ => rfl)) pa_nil)) pa_nil))) pa_nil)) (by rfl))
        (pss_one (ps_asg (pe_ifExp (pt_cmpR op_eq (pe_ix ix_list (pe_ix ix_list (pv 2) (pv 4) (fun _ _ => rfl)) (pv 5) (fun _ _ => rfl)) pe_str (nomark _)) pe_str pe_str) (pg_sub (pe_ix ix_list (pv 2) (pv 4) (fun _ _ => rfl)) (pv 5) set_list)))))
      (pss_one (ps_ret (pe_callTy call_tuple_of (by rfl) T.tuple (by decide +kernel) (pa_cons (pe_lc (own := [("row", 6)]) (g := gName 6) (tt := tYes) rfl nd (pi_list (pv 2)) (blkOk_by (N := nNr) (sc := defScope sNr) (by decide +kernel)) (fun _ _ _ _ _ => pg_name (i := 6) nd rfl (Or.inl rfl)) (fun _ _ _ _ _ => pts_nil)
          (fun _ _ _ _ _ => pe_joinK (K := K) rfl pe_str (pv 6))) pa_nil))))), ?_⟩
    have fu : n + 10 ≤ 1000000000000 := hn
    refine ⟨.ref a, rfl, a, rfl, ⟨_, SqT.of ha⟩, fun G hG => lc_tup (K := K) (a := a) (xs := rs.map rv) (fun i H2 => ∃ as, GridN H H2 G as (rs.take i)) ?_ (fun i H2 _ z => ?_) ?_ ?_⟩
    · exact ⟨[], ⟨upd_same, rfl, (fun i a l h => nomatch h), List.nodup_nil, (fun h => nomatch h)⟩, same_upd hG, hG, (fun a h => nomatch h)⟩
    · obtain ⟨as, G⟩ := z
      exact SqT.of (G.sm _ _ ha)
    · rintro i x H2 hi ⟨as, G⟩
      obtain ⟨l, hl, rfl⟩ := map_at2 hi
      have l1 := (pr.row l (List.mem_of_getElem? hl)).len
      have w1 := pr.w1
      have h1' := pr.h1
      have hil : i < rs.length := (List.getElem?_eq_some_iff.mp hl).1
      rw [pr.len] at hil
      refine ⟨rfl, rv l, rfl, S l, rfl, ?_, fun b hb => ?_⟩
      · show l.length ≤ sizeLine
        exact Nat.le_of_lt (small1000 (by omega))
      · rw [chars_row]
        refine ⟨as.map V.ref, ?_, ?_, as ++ [b], ?_⟩
        · rw [upd_ne (ne_of_none G.gr.top hb)]
          exact G.gr.top
        · rw [List.length_map, G.gr.len, List.length_take]
          exact small1000 (by omega)
        · rw [take_snoc hl]
          exact G.add hb
    · rintro H3 ⟨as, Gn⟩
      rw [List.length_map, List.take_length] at Gn
      have D3 := D.same Gn.sm
      have nof : ∀ p, H p = none → p ≠ d := fun p hp => D.new hp
      have Gd : GridD d H H3 G as rs := ⟨Gn.gr, Do.same Gn.sm, Gn.ng, Gn.nr, nof _ Gn.ng, fun b hb => nof _ (Gn.nr b hb)⟩
      refine ⟨.ref d, rfl, d, 2, n, rfl, D3, (by show n ≤ 1000000000000; omega), by decide, by decide, fun m H4 m0 m1 D4 dn4 => ⟨1, m, rfl, rfl, _, rfl, by omega, by omega, ?_⟩⟩
      obtain ⟨t, rfl⟩ := Int.eq_ofNat_of_zero_le m0
      have et : (1 + (t : Int)) = ((1 + t : Nat) : Int) := by omega
      rw [et]
      refine for_range (lo := 0) (n := 1 + t) (fun i σ H5 => ∃ (y3 y4 y5 : Option V) (ls : List (List Nat)), σ = [some (.ref d), some (.ref a), some (.ref G), y3, y4, y5, none] ∧ GridD d H H5 G as ls ∧ RowsR high wide ls ∧ Du H5 d (n + 1 + 2 * i)) ⟨none, none, none, rs, rfl, Gd.dn dn4, pr.rows, D4⟩ ?_ ?_
      · rintro i σ H5 hi ⟨y3, y4, y5, ls, rfl, G5, R5, D5⟩
        have lh : as.length = high := by rw [G5.gr.len, R5.len]
        have hh0 := pr.h0
        have ww0 := pr.w0
        refine ⟨.ref d, rfl, .ref G, rfl, G, _, rfl, .inl (SqL.of G5.gr.top), d, _, _, rfl, D5, (by show _ ≤ 1000000000000; omega), ?_, ?_, fun r H6 r0 r1 D6 dn6 => ?_⟩
        · rw [List.length_map, lh]
          omega
        · rw [List.length_map, lh]
          have := pr.h1
          omega
        rw [List.length_map, lh] at r1
        obtain ⟨r, rfl⟩ := Int.eq_ofNat_of_zero_le r0
        have G6 := G5.dn dn6
        have h0' : 0 < ls.length := by rw [R5.len]; omega
        have e00 : ls[0]? = some ls[0] := List.getElem?_eq_getElem h0'
        have a00 : as[0]? = some (as[0]'(by omega)) := List.getElem?_eq_getElem (by omega)
        have row0 := G6.gr.row 0 _ _ a00 e00
        have len0 := (R5.row _ (List.mem_of_getElem? e00)).len
        refine ⟨.ref d, rfl, .ref G, rfl, G, _, 0, .ref (as[0]'(by omega)), rfl, rfl, SqL.of G6.gr.top, atI_nat (j := 0) (by rw [List.getElem?_map, a00]; rfl), _, _, rfl, .inl (SqL.of row0), d, _, _, rfl, D6, (by show _ ≤ 1000000000000; omega), ?_, ?_, fun c H7 c0 c1 D7 dn7 => ?_⟩
        · rw [List.length_map, len0]
          omega
        · rw [List.length_map, len0]
          have := pr.w1
          omega
        rw [List.length_map, len0] at c1
        obtain ⟨c, rfl⟩ := Int.eq_ofNat_of_zero_le c0
        have G7 := G6.dn dn7
        have hr1 : r < ls.length := by rw [R5.len]; omega
        have e1 : ls[r]? = some ls[r] := List.getElem?_eq_getElem hr1
        generalize ls[r] = l at e1
        have rl := R5.row l (List.mem_of_getElem? e1)
        have hc1 : c < l.length := by rw [rl.len]; omega
        have e2 : l[c]? = some l[c] := List.getElem?_eq_getElem hc1
        generalize l[c] = x at e2
        have ha1 : r < as.length := by omega
        have e3 : as[r]? = some as[r] := List.getElem?_eq_getElem ha1
        generalize as[r] = b at e3
        have hb := G7.gr.row _ b l e3 e1
        have i1 : atI (as.map V.ref) (r : Int) = some (.ref b) := atI_nat (by rw [List.getElem?_map, e3]; rfl)
        have i2 : atI (l.map ch) (c : Int) = some (ch x) := atI_nat (by rw [List.getElem?_map, e2]; rfl)
        refine ⟨_, _, rfl, .ref G, rfl, .int r, rfl, G, _, r, .ref b, rfl, rfl, SqL.of G7.gr.top, i1, .int c, rfl, b, _, c, ch x, rfl, rfl, SqL.of hb, i2, rfl, _, rfl, ?_⟩
        have fin : ∀ y, y = 35 ∨ y = 46 → GridD d H (upd H7 b (.lst ((l.map ch).set c (ch y)))) G as (ls.set r (l.set c y)) ∧ RowsR high wide (ls.set r (l.set c y)) ∧ Du (upd H7 b (.lst ((l.map ch).set c (ch y)))) d (n + 1 + 2 * (i + 1)) := fun y hy =>
          ⟨G7.put e3 e1, R5.put e1 hy, (D7.upd (G7.ad b (List.mem_of_getElem? e3))).le (by omega)⟩
        cases decide (ch x = V.str "#") with
        | true =>
          refine iteT ⟨.ref G, rfl, .int r, rfl, G, _, r, .ref b, rfl, rfl, SqL.of G7.gr.top, i1, .int c, rfl, b, _, c, c, rfl, rfl, hb, ixN_at (by rw [List.length_map]; exact hc1), _, _, _, ls.set r (l.set c 46), rfl, ?_⟩
          have z := fin 46 (.inr rfl)
          have e46 : ch 46 = V.str "." := by rw [s_dot]; rfl
          rw [e46] at z
          exact z
        | false =>
          refine iteF ⟨.ref G, rfl, .int r, rfl, G, _, r, .ref b, rfl, rfl, SqL.of G7.gr.top, i1, .int c, rfl, b, _, c, c, rfl, rfl, hb, ixN_at (by rw [List.length_map]; exact hc1), _, _, _, ls.set r (l.set c 35), rfl, ?_⟩
          have z := fin 35 (.inl rfl)
          have e35 : ch 35 = V.str "#" := by rw [s_hash]; rfl
          rw [e35] at z
          exact z
      · rintro σ H5 ⟨y3, y4, y5, ls, rfl, G5, R5, D5⟩
        refine ⟨.ref G, rfl, G, rfl, ⟨_, SqL.of G5.gr.top⟩, fun E hE => lc_list (K := K) (a := G) (xs := as.map V.ref) (fun i H6 => GridD d H H6 G as ls ∧ Du H6 d (n + 1 + 2 * (1 + t)) ∧ H6 E = some (.lst ((ls.take i).map rv))) ⟨?_, D5.same (same_upd hE), upd_same⟩ (fun i H6 _ z => SqL.of z.1.gr.top) ?_ ?_⟩
        · exact G5.dn (Do.same (same_upd hE))
        · rintro i x H6 hi ⟨G6, D6, h6⟩
          obtain ⟨b, hb, rfl⟩ := map_at2 hi
          have hil : i < ls.length := by
            rw [← G6.gr.len]
            exact (List.getElem?_eq_some_iff.mp hb).1
          have el : ls[i]? = some ls[i] := List.getElem?_eq_getElem hil
          generalize ls[i] = l at el
          have hrow := G6.gr.row i b l hb el
          have rl := R5.row l (List.mem_of_getElem? el)
          have w1 := pr.w1
          have h1' := pr.h1
          have ll := rl.len
          rw [R5.len] at hil
          have nE := G5.gr.none hE
          have nE0 : H E = none := G5.sm.nn D5 hE
          refine ⟨rfl, ⟨"", rfl⟩, .ref b, rfl, "", b, l.map fun c => (⟨#[c]⟩ : Str), rfl, rfl, .inl (SqL.of (hrow.trans (by rw [List.map_map]; rfl))), ?_, ?_⟩
          · rw [lens_rows]
            show l.length + _ * 0 ≤ 16777216
            omega
          · rw [join_row]
            refine ⟨_, h6, ?_, G6.same' nE.1 nE.2 nE0, D6.upd (nof _ nE0), ?_⟩
            · rw [List.length_map, List.length_take]
              exact small1000 (by omega)
            · rw [upd_same, take_snoc el, List.map_append]
              rfl
        · rintro H6 ⟨G6, D6, h6⟩
          have e5 : ls.take (as.map V.ref).length = ls := by
            rw [List.length_map, G6.gr.len, List.take_length]
          rw [e5] at h6
          refine ⟨E, _, rfl, .inl ⟨SqL.of h6, fun p hp => ?_⟩⟩
          have sp := same_upd (o := .tup (ls.map rv)) hp
          exact k p ls _ ⟨R5.len, R5.row, pr.h0, pr.h1, pr.w0, pr.w1⟩ (G6.sm.nn D6 hp) upd_same ((D6.same sp).le (by omega)) (G6.sm.trans (Do.same sp))
end
end Dt
namespace Dt
open PySem PySem.Spec PyProof.Rows L2 L2X
open SX (S)
/-! ### shapes as data -/
structure Sh where
  sg : Nat
  w : Nat
  rs : List (List Nat)
def ShAt (H : Hp) (x : V) (s : Sh) : Prop := ∃ t p, x = .ref t ∧ H t = some (.tup [ch s.sg, .ref p]) ∧ H p = some (.tup (s.rs.map rv))
structure Good (high wide : Nat) (s : Sh) : Prop where
  pic : PicR high s.w s.rs
  w8 : s.w ≤ wide
  s0 : 33 ≤ s.sg
  s1 : s.sg ≤ 126
  dot : ∃ l ∈ s.rs, 35 ∈ l
structure Shs (H : Hp) (xs : List V) (ss : List Sh) : Prop where
  len : xs.length = ss.length
  at_ : ∀ (i : Nat) (x : V) (s : Sh), xs[i]? = some x → ss[i]? = some s → ShAt H x s
structure Goods (high wide : Nat) (ss : List Sh) : Prop where
  all : ∀ s ∈ ss, Good high wide s
  nd : (ss.map (·.rs)).Nodup
theorem ShAt.same {H H' : Hp} {x : V} {s : Sh} (h : ShAt H x s) (sm : Same H H') : ShAt H' x s :=
  let ⟨t, p, e, h1, h2⟩ := h; ⟨t, p, e, sm _ _ h1, sm _ _ h2⟩
theorem ShAt.dn {H H' : Hp} {d : Addr} {n : Nat} {x : V} {s : Sh} (h : ShAt H x s) (D : Du H d n) (sm : Do d H H') : ShAt H' x s := by
  obtain ⟨t, p, e, h1, h2⟩ := h
  obtain ⟨a, b, c, hd, _⟩ := D
  exact ⟨t, p, e, sm _ _ h1 (ne_of h1 hd (by intro z; cases z)), sm _ _ h2 (ne_of h2 hd (by intro z; cases z))⟩
theorem ShAt.updl {H : Hp} {l : Addr} {ys zs : List V} {x : V} {s : Sh} (h : ShAt H x s) (hl : H l = some (.lst ys)) : ShAt (upd H l (.lst zs)) x s := by
  obtain ⟨t, p, e, h1, h2⟩ := h
  exact ⟨t, p, e, by rw [upd_ne (ne_of h1 hl (by intro z; cases z))]; exact h1, by rw [upd_ne (ne_of h2 hl (by intro z; cases z))]; exact h2⟩
section
variable {H H' : Hp} {xs : List V} {ss : List Sh}
theorem Shs.same (h : Shs H xs ss) (sm : Same H H') : Shs H' xs ss := ⟨h.len, fun i x s a b => (h.at_ i x s a b).same sm⟩
theorem Shs.dn {d : Addr} {n : Nat} (h : Shs H xs ss) (D : Du H d n) (sm : Do d H H') : Shs H' xs ss := ⟨h.len, fun i x s a b => (h.at_ i x s a b).dn D sm⟩
theorem Shs.updl {l : Addr} {ys zs : List V} (h : Shs H xs ss) (hl : H l = some (.lst ys)) : Shs (upd H l (.lst zs)) xs ss := ⟨h.len, fun i x s a b => (h.at_ i x s a b).updl hl⟩
theorem Shs.nil : Shs H [] [] := ⟨rfl, fun i x s h => nomatch h⟩
theorem Shs.add {x : V} {s : Sh} (h : Shs H xs ss) (a : ShAt H x s) : Shs H (xs ++ [x]) (ss ++ [s]) := by
  refine ⟨by rw [List.length_append, List.length_append, h.len]; rfl, fun i y s' hy hs => ?_⟩
  by_cases hi : i < xs.length
  · rw [List.getElem?_append_left hi] at hy
    rw [List.getElem?_append_left (by rw [← h.len]; exact hi)] at hs
    exact h.at_ i y s' hy hs
  · rw [List.getElem?_append_right (by omega)] at hy
    rw [List.getElem?_append_right (by rw [← h.len]; omega), ← h.len] at hs
    rcases hk : i - xs.length with _ | k
    · rw [hk] at hy hs
      cases hy
      cases hs
      exact a
    · rw [hk] at hy
      cases hy
end
theorem Goods.nil {high wide : Nat} : Goods high wide [] := ⟨(fun s h => nomatch h), List.nodup_nil⟩
theorem Goods.add {high wide : Nat} {ss : List Sh} {s : Sh} (h : Goods high wide ss) (g : Good high wide s) (nw : s.rs ∉ ss.map (·.rs)) : Goods high wide (ss ++ [s]) := by
  refine ⟨fun y hy => ?_, ?_⟩
  · rcases List.mem_append.mp hy with z | z
    · exact h.all y z
    · rw [List.mem_singleton.mp z]
      exact g
  · rw [List.map_append, List.nodup_append]
    refine ⟨h.nd, by simp, fun x hx y hy e => ?_⟩
    have : y = s.rs := by simpa using hy
    rw [← this, ← e] at nw
    exact nw hx
def sD (s : Sh) : PyData := .tuple [.str ⟨#[s.sg]⟩, .tuple (s.rs.map rD)]
def pDs (s : Sh) : PyData := .tuple (s.rs.map rD)
theorem dp_sh {K : PySem.W.Frag} {H : Hp} {x : V} {s : Sh} (h : ShAt H x s) : Dp K H x (sD s) := by
  obtain ⟨t, p, rfl, h1, h2⟩ := h
  exact .tup (SqT.of h1) (.cons (.str _) (.cons (.tup (SqT.of h2) (dp_rows _)) .nil))
theorem dp_shs {K : PySem.W.Frag} {H : Hp} : ∀ {xs : List V} {ss : List Sh}, Shs H xs ss → DpAll K H xs (ss.map sD)
  | [], [], _ => .nil
  | [], _ :: _, h => nomatch h.len
  | _ :: _, [], h => nomatch h.len
  | x :: xs, s :: ss, h => .cons (dp_sh (h.at_ 0 x s rfl rfl)) (dp_shs ⟨Nat.succ.inj h.len, fun i y q a b => h.at_ (i + 1) y q a b⟩)
theorem lay_sh {high wide : Nat} : ∀ ss : List Sh, (∀ s ∈ ss, Good high wide s) → PyData.canLayAll0 (ss.map sD) = true ∧ PyData.depthAll (ss.map sD) ≤ 3 ∧ PyData.canLayAll0 (ss.map pDs) = true ∧ PyData.depthAll (ss.map pDs) ≤ 3
  | [], _ => ⟨by simp [PyData.canLayAll0], by simp [PyData.depthAll], by simp [PyData.canLayAll0], by simp [PyData.depthAll]⟩
  | s :: r, h => by
    obtain ⟨h1, h2, h3, h4⟩ := lay_sh r fun m hm => h m (List.mem_cons_of_mem _ hm)
    have g := h s List.mem_cons_self
    obtain ⟨r1, r2⟩ := lay_rows s.rs fun l hl => (g.pic.row l hl).sg
    have so : PyData.strOk ⟨#[s.sg]⟩ = true := by
      unfold PyData.strOk
      have := g.s1
      simp
      omega
    refine ⟨?_, ?_, ?_, ?_⟩
    · rw [List.map_cons]
      simp [PyData.canLayAll0, PyData.canLay0, sD, h1, r1, so]
    · rw [List.map_cons]
      simp only [PyData.depthAll, PyData.depth, sD]
      omega
    · rw [List.map_cons]
      simp [PyData.canLayAll0, PyData.canLay0, pDs, h3, r1]
    · rw [List.map_cons]
      simp only [PyData.depthAll, PyData.depth, pDs]
      omega
theorem shaped_shs {high wide : Nat} {ss : List Sh} (h : ∀ s ∈ ss, Good high wide s) : SeqAt.shaped (.list (ss.map sD)) = true := by
  obtain ⟨h1, h2, _⟩ := lay_sh ss h
  unfold SeqAt.shaped
  rw [Bool.and_eq_true, decide_eq_true_iff]
  refine ⟨by simp [PyData.canLay0, h1], ?_⟩
  simp only [PyData.depth]
  omega
theorem shaped_pics {high wide : Nat} {ss : List Sh} (h : ∀ s ∈ ss, Good high wide s) : SeqAt.shaped (.list (ss.map pDs)) = true := by
  obtain ⟨_, _, h1, h2⟩ := lay_sh ss h
  unfold SeqAt.shaped
  rw [Bool.and_eq_true, decide_eq_true_iff]
  refine ⟨by simp [PyData.canLay0, h1], ?_⟩
  simp only [PyData.depth]
  omega
theorem eqv_rowsD : ∀ ls ms : List (List Nat), PyData.eqvAll (ls.map rD) (ms.map rD) = decide (ls = ms)
  | [], [] => by simp [PyData.eqvAll]
  | [], _ :: _ => by simp [PyData.eqvAll]
  | _ :: _, [] => by simp [PyData.eqvAll]
  | l :: r, m :: t => by
    rw [List.map_cons, List.map_cons, PyData.eqvAll, eqv_rowsD r t]
    have e : PyData.eqv (rD l) (rD m) = decide (l = m) := by
      show (S l == S m) = _
      exact SX.S_beq_eq
    rw [e]
    apply Bool.eq_iff_iff.mpr
    simp
theorem eqv_pics (ls ms : List (List Nat)) : PyData.eqv (.tuple (ls.map rD)) (.tuple (ms.map rD)) = decide (ls = ms) := by
  rw [← eqv_rowsD ls ms]
  simp [PyData.eqv]
theorem any_pics (ss : List Sh) (ls : List (List Nat)) : ((ss.map pDs).any fun z => PyData.eqv z (.tuple (ls.map rD))) = decide (ls ∈ ss.map (·.rs)) := by
  apply Bool.eq_iff_iff.mpr
  rw [List.any_eq_true, decide_eq_true_iff]
  constructor
  · rintro ⟨z, hz, e⟩
    obtain ⟨s, hs, rfl⟩ := List.mem_map.mp hz
    have e2 : PyData.eqv (.tuple (s.rs.map rD)) (.tuple (ls.map rD)) = true := e
    rw [eqv_pics, decide_eq_true_iff] at e2
    rw [← e2]
    exact List.mem_map.mpr ⟨s, hs, rfl⟩
  · intro h
    obtain ⟨s, hs, e⟩ := List.mem_map.mp h
    refine ⟨pDs s, List.mem_map.mpr ⟨s, hs, rfl⟩, ?_⟩
    show PyData.eqv (.tuple (s.rs.map rD)) (.tuple (ls.map rD)) = true
    rw [eqv_pics, e, decide_eq_true rfl]
/-! ### texts -/
theorem joinL_nil : ∀ ls : List (List Nat), TL.joinL [] ls = ls.flatten
  | [] => rfl
  | [c] => by
    show c = c ++ []
    rw [List.append_nil]
  | c :: d :: r => by
    show c ++ ([] ++ TL.joinL [] (d :: r)) = _
    rw [joinL_nil (d :: r)]
    rfl
theorem join_flat (ls : List (List Nat)) : Txt.join "" (ls.map S) = S ls.flatten := by
  rw [s_empty, SX.join_S, joinL_nil]
theorem lens_flat : ∀ {ls : List (List Nat)} {w : Nat}, (∀ l ∈ ls, l.length = w) → ((ls.map S).map (·.length)).sum = ls.length * w
  | [], w, _ => by simp
  | l :: r, w, h => by
    rw [List.map_cons, List.map_cons, List.sum_cons, lens_flat fun m hm => h m (List.mem_cons_of_mem _ hm), SX.S_len, h l List.mem_cons_self, List.length_cons, Nat.add_mul, Nat.one_mul, Nat.add_comm]
theorem cutS_to (l : List Nat) (n : Nat) : cutS (S l) none (some (n : Int)) = S (l.take n) := by
  unfold cutS
  rw [SX.S_len, HT.sIx_nat]
  have e0 : HT.sIx l.length 0 none = 0 := rfl
  rw [e0, Nat.sub_zero]
  show S (((S l).cps.toList.drop 0).take (min n l.length)) = _
  have e1 : (S l).cps.toList = l := by simp [S]
  rw [e1, List.drop_zero]
  congr 1
  by_cases h : n ≤ l.length
  · rw [Nat.min_eq_left h]
  · rw [Nat.min_eq_right (by omega), List.take_length, List.take_of_length_le (by omega)]
theorem gap_ok {g : Nat} (h : g ≤ 120) : MulOk "." (g : Int) ∧ Txt.mul "." (g : Int) = S (List.replicate g 46) := by
  rw [s_dot]
  rcases Nat.eq_zero_or_pos g with e | e
  · subst e
    refine ⟨⟨by decide, fun n => absurd (by decide) n, fun n => absurd (by decide) n⟩, ?_⟩
    unfold Txt.mul
    rw [if_pos (by decide)]
    rfl
  · exact ⟨mul_ok 46 g e h, mul_sign 46 g e⟩
theorem has_dot {rs : List (List Nat)} (h : 35 ∈ rs.flatten) : ∃ l ∈ rs, 35 ∈ l := by
  obtain ⟨l, hl, hm⟩ := List.mem_flatten.mp h
  exact ⟨l, hl, hm⟩
end Dt
namespace Dt
open PySem PySem.Spec PyProof.Rows L2 L2X
open SX (S)
/-! ### _law_shapes -/
abbrev sShp : Stmt := topS 44
abbrev nShp : List Str := ["draw", "high", "most", "wide", "found", "signs", "turn", "way", "one", "row", "more", "sign", "picture"]
theorem scShp : FnScope nShp ["draw", "high", "most", "wide"] (defScope sShp) := ⟨rfl, rfl, rfl, by decide +kernel, rfl, by decide +kernel, by decide +kernel⟩
def spShp : Sp := fun vs H Q _ => ∃ (d : Addr) (high most wide n : Nat), vs = [.ref d, .int high, .int most, .int wide] ∧ Du H d n ∧ n + 500000 ≤ fuel ∧ 1 ≤ high ∧ high ≤ 60 ∧ 1 ≤ most ∧ most ≤ 20 ∧ 1 ≤ wide ∧ wide ≤ 60 ∧
  ∀ (l : Addr) (xs : List V) (ss : List Sh) (H' : Hp), H l = none → H' l = some (.lst xs) → Shs H' xs ss → Goods high wide ss → 0 < ss.length → ss.length ≤ most → Du H' d (n + 500000) → Do d H H' → Q (.ref l) H'
def FdI (l : Addr) (high wide : Nat) (H : Hp) (ss : List Sh) : Prop := ∃ xs, H l = some (.lst xs) ∧ Shs H xs ss ∧ Goods high wide ss
theorem FdI.dn {d l : Addr} {high wide n : Nat} {H H' : Hp} {ss : List Sh} (h : FdI l high wide H ss) (D : Du H d n) (nl : l ≠ d) (s : Do d H H') : FdI l high wide H' ss :=
  let ⟨xs, h1, h2, h3⟩ := h; ⟨xs, s _ _ h1 nl, h2.dn D s, h3⟩
theorem FdI.same {l : Addr} {high wide : Nat} {H H' : Hp} {ss : List Sh} (h : FdI l high wide H ss) (s : Same H H') : FdI l high wide H' ss :=
  let ⟨xs, h1, h2, h3⟩ := h; ⟨xs, s _ _ h1, h2.same s, h3⟩
theorem neD_nil {ss : List Sh} (h : ss = []) : (!PyData.eqv (.list (ss.map sD)) (.list [])) = false := by
  rw [h]
  simp [PyData.eqv, PyData.eqvAll]
theorem neD_ne {ss : List Sh} (h : ss ≠ []) : (!PyData.eqv (.list (ss.map sD)) (.list [])) = true := by
  cases ss with
  | nil => exact absurd rfl h
  | cons s r => simp [PyData.eqv, PyData.eqvAll]
/-- the pictures alone -/
structure Pcs (H : Hp) (zs : List V) (ss : List Sh) : Prop where
  len : zs.length = ss.length
  at_ : ∀ (i : Nat) (z : V) (s : Sh), zs[i]? = some z → ss[i]? = some s → ∃ p, z = .ref p ∧ H p = some (.tup (s.rs.map rv))
theorem Pcs.same {H H' : Hp} {zs : List V} {ss : List Sh} (h : Pcs H zs ss) (sm : Same H H') : Pcs H' zs ss := ⟨h.len, fun i z s a b => let ⟨p, e, hp⟩ := h.at_ i z s a b; ⟨p, e, sm _ _ hp⟩⟩
theorem Pcs.updl {H : Hp} {zs : List V} {ss : List Sh} {l : Addr} {ys us : List V} (h : Pcs H zs ss) (hl : H l = some (.lst ys)) : Pcs (upd H l (.lst us)) zs ss := ⟨h.len, fun i z s a b => let ⟨p, e, hp⟩ := h.at_ i z s a b; ⟨p, e, by rw [upd_ne (ne_of hp hl (by intro z; cases z))]; exact hp⟩⟩
theorem Pcs.add {H : Hp} {zs : List V} {ss : List Sh} {p : Addr} {s : Sh} (h : Pcs H zs ss) (hp : H p = some (.tup (s.rs.map rv))) : Pcs H (zs ++ [.ref p]) (ss ++ [s]) := by
  refine ⟨by rw [List.length_append, List.length_append, h.len]; rfl, fun i y s' hy hs => ?_⟩
  by_cases hi : i < zs.length
  · rw [List.getElem?_append_left hi] at hy
    rw [List.getElem?_append_left (by rw [← h.len]; exact hi)] at hs
    exact h.at_ i y s' hy hs
  · rw [List.getElem?_append_right (by omega)] at hy
    rw [List.getElem?_append_right (by rw [← h.len]; omega), ← h.len] at hs
    rcases hk : i - zs.length with _ | k
    · rw [hk] at hy hs
      cases hy
      cases hs
      exact ⟨p, rfl, hp⟩
    · rw [hk] at hy
      cases hy
theorem dp_pcs {K : PySem.W.Frag} {H : Hp} : ∀ {zs : List V} {ss : List Sh}, Pcs H zs ss → DpAll K H zs (ss.map pDs)
  | [], [], _ => .nil
  | [], _ :: _, h => nomatch h.len
  | _ :: _, [], h => nomatch h.len
  | x :: xs, s :: ss, h => by
    obtain ⟨p, e, hp⟩ := h.at_ 0 x s rfl rfl
    subst e
    exact .cons (.tup (SqT.of hp) (dp_rows _)) (dp_pcs ⟨Nat.succ.inj h.len, fun i y q a b => h.at_ (i + 1) y q a b⟩)
section
variable {P : Program} {w : World} {K : PySem.W.Frag} {mg : Str → Option Value} {base : Heap}
theorem ok_shp {f : Addr} {fd : FuncData} {k : Nat} (F : Fun K "_law_shapes" "_law_shapes" sShp f fd) (T : Tx mg) (hz : mg "zip" = none) (GN : Pm P w K mg base CX0 (k + 3) "_law_next" ["draw", "below"] spNx) (GK : Pm P w K mg base CX0 (k + 3) "_law_pick" ["draw", "some"] (spPk K))
    (GP : Pm P w K mg base CX0 (k + 3) "_law_picture" ["draw", "high", "wide", "dense"] spPc) (GR : Pm P w K mg base CX0 (k + 3) "_law_near" ["draw", "picture"] spNr) : FnOk P w K mg base CX0 (k + 4) f fd ["draw", "high", "most", "wide"] spShp := by
  obtain ⟨fN, fdN, GN, mN, kN, bN⟩ := GN.ex
  obtain ⟨fK, fdK, GK, mK, kK, bK⟩ := GK.ex
  obtain ⟨fP, fdP, GP, mP, kP, bP⟩ := GP.ex
  obtain ⟨fR, fdR, GR, mR, kR, bR⟩ := GR.ex
  refine F.ok scShp (fun vs H Q E h => ?_) (fun cdv A outer s H vs Q E hr h => ?_)
  · obtain ⟨d, high, most, wide, n, rfl, _⟩ := h
    rfl
  · obtain ⟨d, high, most, wide, n, rfl, D, hn, h0, h1, m0, m1, w0, w1, q⟩ := h
    have nd := scShp.nd
    have hu64 := hr.units
    have hu65 : (A.deeper (envOfC "_law_shapes" (defScope sShp) s.heap.objs.size f cdv)).units + 65 < cLine := by
      have := hr.un
      omega
    refine ⟨_, pss_cons (ps_par (i := 4) (j := 5) (by rfl) nd rfl rfl (by decide) rfl rfl (pa_cons (pe_lst pa_nil) (pa_cons (pe_call GK hr (by rfl) mK kK bK .nil pass0 (pa_cons (pv 0) (pa_cons (pe_lst (pa_cons pe_str (pa_cons pe_str (pa_cons pe_str (pa_cons pe_str pa_nil))))) pa_nil))) pa_nil)) (by rfl))
      (pss_cons (ps_for PassesOwn.never rfl (pi_range1 rfl T.range (pa_cons (pe_op op_add pe_int (pe_call GN hr (by rfl) mN kN bN .nil pass0 (pa_cons (pv 0) (pa_cons (pv 2) pa_nil)))) pa_nil)) (pg_name (i := 6) nd rfl (.inl rfl))
        (C8.pss_cut (ps_par (i := 7) (j := 8) (by rfl) nd rfl rfl (by decide) rfl rfl (pa_cons (pe_call GN hr (by rfl) mN kN bN .nil pass0 (pa_cons (pv 0) (pa_cons pe_int pa_nil))) (pa_cons (pe_call GP hr (by rfl) mP kP bP .nil pass0 (pa_cons (pv 0) (pa_cons (pv 1) (pa_cons (pe_op op_add pe_int (pe_call GN hr (by rfl) mN kN bN .nil pass0 (pa_cons (pv 0) (pa_cons (pv 3) pa_nil)))) (pa_cons (pe_op op_add pe_int (pe_call GN hr (by rfl) mN kN bN .nil pass0 (pa_cons (pv 0) (pa_cons pe_int pa_nil)))) pa_nil))))) pa_nil)) (by rfl))
        (C8.pss_cut (ps_if (PW.pt (pw_and (pt_cmpR (op_neD hu64) (pv 4) (pe_lst pa_nil) (nomark _)) (pw_and1 (pt_cmpR op_eq (pv 7) pe_int (nomark _)))))
            (pss_one (ps_set (i := 8) nd rfl (.inl rfl) (pe_call GR hr (by rfl) mR kR bR .nil pass0 (pa_cons (pv 0) (pa_cons (pe_ix (r := rIxT K) ix_tup (pe_call GK hr (by rfl) mK kK bK .nil pass0 (pa_cons (pv 0) (pa_cons (pv 4) pa_nil))) pe_int (fun _ _ => rfl)) pa_nil)))))
            (pss_one (ps_if (PW.pt (pw_and (pt_cmpR (op_neD hu64) (pv 4) (pe_lst pa_nil) (nomark _)) (pw_and1 (pt_cmpR op_eq (pv 7) pe_int (nomark _)))))
              (pss_cons (ps_set (i := 8) nd rfl (.inl rfl) (pe_callTy call_tuple_of (by rfl) T.tuple (by decide +kernel) (pa_cons (pe_lc (own := [("row", 9), ("more", 10)]) (g := gTup K 2 (gCons (gName 9) (gCons (gName 10) gNil))) (tt := tYes) rfl nd (pi_zipG (by rfl) hz (pa_cons (pe_ix (r := rIxT K) ix_tup (pe_call GK hr (by rfl) mK kK bK .nil pass0 (pa_cons (pv 0) (pa_cons (pv 4) pa_nil))) pe_int (fun _ _ => rfl)) (pa_cons (pv 8) pa_nil))) (blkOk_by (N := nShp) (sc := defScope sShp) (by decide +kernel))
                  (fun _ _ _ _ _ => pg_tup rfl (pgs_cons (pg_name (i := 9) nd rfl (Or.inl rfl)) (pgs_cons (pg_name (i := 10) nd rfl (Or.inl rfl)) pgs_nil))) (fun _ _ _ _ _ => pts_nil) (fun _ _ _ _ _ => pe_op op_add_str (pv 9) (pv 10))) pa_nil)))
              (pss_one (ps_set (i := 8) nd rfl (.inl rfl) (pe_callTy call_tuple_of (by rfl) T.tuple (by decide +kernel) (pa_cons (pe_lc (own := [("row", 9)]) (g := gName 9) (tt := tYes) rfl nd (pi_tup (pv 8)) (blkOk_by (N := nShp) (sc := defScope sShp) (by decide +kernel)) (fun _ _ _ _ _ => pg_name (i := 9) nd rfl (Or.inl rfl)) (fun _ _ _ _ _ => pts_nil)
                  (fun _ _ _ _ _ => pe_slice sl_str (pv 9) po_none (po_some (pv 3)))) pa_nil))))) pss_nil)))
        (pss_one (ps_if (PW.pt (pw_and (pt_cmpR op_in_sign pe_str (pe_joinK (K := K) rfl pe_str (pv 8)) (by with_unfolding_all rfl)) (pw_and1 (pt_cmpR (op_notInD hu65) (pv 8) (pe_lc (own := [("sign", 11), ("picture", 12)]) (g := gTup K 2 (gCons (gName 11) (gCons (gName 12) gNil))) (tt := tYes) rfl nd (pi_list (pv 4)) (blkOk_by (N := nShp) (sc := defScope sShp) (by decide +kernel))
              (fun _ _ _ _ _ => pg_tup rfl (pgs_cons (pg_name (i := 11) nd rfl (Or.inl rfl)) (pgs_cons (pg_name (i := 12) nd rfl (Or.inl rfl)) pgs_nil))) (fun _ _ _ _ _ => pts_nil) (fun _ _ _ _ _ => pv 12)) (by with_unfolding_all rfl)))))
            (pss_one (ps_expr (pe_bm PySem.F.plainAttrs_list PySem.F.slot_list_append PySem.F.type_list_append mt_append (pv 4) (pa_cons (pe_tup (pa_cons (pe_call GK hr (by rfl) mK kK bK .nil pass0 (pa_cons (pv 0) (pa_cons (pe_slice sl_str (pv 5) po_none (po_some (pe_op op_add pe_int (pe_call GN hr (by rfl) mN kN bN .nil pass0 (pa_cons (pv 0) (pa_cons pe_int pa_nil)))))) pa_nil))) (pa_cons (pv 8) pa_nil))) pa_nil)))) pss_nil)))))
      (pss_one (ps_ret (pe_ifExp (pt_cmpR (op_neD hu64) (pv 4) (pe_lst pa_nil) (nomark _)) (pv 4) (pe_lst (pa_cons (pe_tup (pa_cons pe_str (pa_cons (pe_op op_repA (pe_tup (pa_cons pe_str pa_nil)) (pv 1)) pa_nil))) pa_nil)))))), ?_⟩
    have fu : n + 500000 ≤ 1000000000000 := hn
    refine ⟨by show 0 ≤ sizeLine; decide, fun l hl => ?_⟩
    have sl := same_upd (o := .lst []) hl
    have nl := D.new hl
    have Dl := D.same sl
    refine ⟨.ref d, rfl, by show 4 ≤ sizeLine; decide, fun l2 hl2 => ?_⟩
    have s2 := same_upd (o := .lst [V.str "abcdef", V.str "lIi1|!", V.str "?ab-.,", V.str "zZ~!#A"]) hl2
    have D2 := Dl.same s2
    refine ⟨d, .ref l2, n, rfl, D2, (by show n ≤ 1000000000000; omega), .inl ⟨l2, _, rfl, Dl.new hl2, upd_same, by decide, by decide, fun j y H3 hy D3 dn3 => ?_⟩⟩
    obtain ⟨zl, rfl, zlen, zsg⟩ : ∃ zl : List Nat, y = .str (S zl) ∧ zl.length = 6 ∧ ∀ c ∈ zl, 33 ≤ c ∧ c ≤ 126 := by
      rcases j with _ | _ | _ | _ | j
      · cases hy
        exact ⟨("abcdef" : Str).cps.toList, by rw [SX.S_tl], by decide +kernel, by decide +kernel⟩
      · cases hy
        exact ⟨("lIi1|!" : Str).cps.toList, by rw [SX.S_tl], by decide +kernel, by decide +kernel⟩
      · cases hy
        exact ⟨("?ab-.," : Str).cps.toList, by rw [SX.S_tl], by decide +kernel, by decide +kernel⟩
      · cases hy
        exact ⟨("zZ~!#A" : Str).cps.toList, by rw [SX.S_tl], by decide +kernel, by decide +kernel⟩
      · cases hy
    have F3 : FdI l high wide H3 [] := ⟨[], dn3 _ _ (s2 _ _ upd_same) nl, Shs.nil, Goods.nil⟩
    have dnA : Do d H H3 := ((Do.same sl).trans (Do.same s2)).trans dn3
    refine ⟨_, _, rfl, .ref d, rfl, .int most, rfl, d, most, n + 1, rfl, D3, (by show n + 1 ≤ 1000000000000; omega), by omega, by omega, fun m H4 mm0 mm1 D4 dn4 => ⟨1, m, rfl, rfl, _, rfl, by omega, by omega, ?_⟩⟩
    obtain ⟨t, rfl⟩ := Int.eq_ofNat_of_zero_le mm0
    have et : (1 + (t : Int)) = ((1 + t : Nat) : Int) := by omega
    rw [et]
    refine for_range (lo := 0) (n := 1 + t) (fun i σ H5 => ∃ (y6 y7 y8 : Option V) (ss : List Sh), σ = [some (.ref d), some (.int high), some (.int most), some (.int wide), some (.ref l), some (.str (S zl)), y6, y7, y8, none, none, none, none] ∧ FdI l high wide H5 ss ∧ ss.length ≤ i ∧ Du H5 d (n + 2 + 20100 * i) ∧ Do d H H5)
      ⟨none, none, none, [], rfl, F3.dn D3 nl dn4, Nat.le_refl _, D4, dnA.trans dn4⟩ ?_ ?_
    · rintro i σ H5 hi ⟨y6, y7, y8, ss, rfl, F5, sl5, D5, dn5⟩
      generalize (V.int (0 + (i : Int))) = tv
      -- way, one
      refine ⟨fun σ' H' => ∃ (way : Int) (p : Addr) (w1 : Nat) (rs : List (List Nat)), σ' = [some (.ref d), some (.int high), some (.int most), some (.int wide), some (.ref l), some (.str (S zl)), some tv, some (.int way), some (.ref p), none, none, none, none] ∧ PicR high w1 rs ∧ w1 ≤ wide ∧ H' p = some (.tup (rs.map rv)) ∧ FdI l high wide H' ss ∧ Du H' d (n + 2 + 20100 * i + 20003) ∧ Do d H H', ?_, ?_⟩
      · refine ⟨.ref d, rfl, d, 4, _, rfl, D5, (by show _ ≤ 1000000000000; omega), by decide, by decide, fun way H6 wa0 wa1 D6 dn6 => ?_⟩
        refine ⟨.ref d, rfl, .int high, rfl, .ref d, rfl, .int wide, rfl, d, wide, _, rfl, D6, (by show _ ≤ 1000000000000; omega), by omega, by omega, fun a H7 a0 a1 D7 dn7 => ⟨1, a, rfl, rfl, ?_⟩⟩
        refine ⟨.ref d, rfl, d, 6, _, rfl, D7, (by show _ ≤ 1000000000000; omega), by decide, by decide, fun b H8 b0 b1 D8 dn8 => ⟨3, b, rfl, rfl, ?_⟩⟩
        obtain ⟨a, rfl⟩ := Int.eq_ofNat_of_zero_le a0
        have ea : (1 + (a : Int)) = ((1 + a : Nat) : Int) := by omega
        have dn58 := dn6.trans (dn7.trans dn8)
        refine ⟨d, high, 1 + a, _, 3 + b, congrArg (fun z => [V.ref d, V.int high, V.int z, V.int (3 + b)]) ea, D8, (by show _ ≤ 1000000000000; omega), h0, h1, by omega, by omega, fun p rs H9 pr np hp D9 dn9 => ?_⟩
        exact ⟨_, _, rfl, way, p, 1 + a, rs, rfl, pr, by omega, hp, F5.dn D5 nl (dn58.trans dn9), D9.le (by omega), dn5.trans (dn58.trans dn9)⟩
      rintro _ H6 ⟨way, p, w1', rs, rfl, pr, hw, hp, F6, D6, dn6⟩
      -- near to another, put to another
      refine ⟨fun σ' H' => ∃ (p : Addr) (w1 : Nat) (rs : List (List Nat)), σ' = [some (.ref d), some (.int high), some (.int most), some (.int wide), some (.ref l), some (.str (S zl)), some tv, some (.int way), some (.ref p), none, none, none, none] ∧ PicR high w1 rs ∧ w1 ≤ wide ∧ H' p = some (.tup (rs.map rv)) ∧ FdI l high wide H' ss ∧ Du H' d (n + 2 + 20100 * i + 20050) ∧ Do d H H', ?_, ?_⟩
      · obtain ⟨xs, hxs, S6, G6⟩ := id F6
        refine ⟨.ref l, rfl, by show 0 ≤ sizeLine; decide, fun e0 he0 => ⟨.list (ss.map sD), .list [], .lst (SqL.of (same_upd he0 _ _ hxs)) (dp_shs (S6.same (same_upd he0))), .lst (SqL.of upd_same) .nil, shaped_shs G6.all, by decide +kernel, _, rfl, ?_⟩⟩
        have sE := same_upd (o := .lst []) he0
        have again : ∀ (H7 : Hp), Same H6 H7 → ∃ (p8 : Addr) (w1 : Nat) (rs : List (List Nat)), ([some (.ref d), some (.int high), some (.int most), some (.int wide), some (.ref l), some (.str (S zl)), some tv, some (.int way), some (.ref p), none, none, none, none] : L2.St) = [some (.ref d), some (.int high), some (.int most), some (.int wide), some (.ref l), some (.str (S zl)), some tv, some (.int way), some (.ref p8), none, none, none, none] ∧ PicR high w1 rs ∧ w1 ≤ wide ∧ H7 p8 = some (.tup (rs.map rv)) ∧ FdI l high wide H7 ss ∧ Du H7 d (n + 2 + 20100 * i + 20050) ∧ Do d H H7 :=
          fun H7 s67 => ⟨p, w1', rs, rfl, pr, hw, s67 _ _ hp, F6.same s67, (D6.same s67).le (by omega), dn6.trans (Do.same s67)⟩
        have lx : xs.length ≤ 1000 := by
          rw [S6.len]
          omega
        by_cases e : ss = []
        · refine iteE (neD_nil e) (iteF ?_)
          refine ⟨.ref l, rfl, by show 0 ≤ sizeLine; decide, fun e1 he1 => ⟨.list (ss.map sD), .list [], .lst (SqL.of (same_upd he1 _ _ (sE _ _ hxs))) (dp_shs ((S6.same sE).same (same_upd he1))), .lst (SqL.of upd_same) .nil, shaped_shs G6.all, by decide +kernel, _, rfl, ?_⟩⟩
          exact iteE (neD_nil e) (iteF (again _ (sE.trans (same_upd he1))))
        · have hpos : 0 < xs.length := by
            rw [S6.len]
            exact List.length_pos_iff.mpr e
          refine iteY (neD_ne e) ⟨.int way, rfl, rfl, _, rfl, ?_⟩
          have DE := D6.same sE
          cases decide (V.int way = V.int 0) with
          | true =>
            refine iteT ⟨.ref d, rfl, .ref d, rfl, .ref l, rfl, d, .ref l, _, rfl, DE, (by show _ ≤ 1000000000000; omega), .inl ⟨l, xs, rfl, nl, sE _ _ hxs, hpos, lx, fun j y H8 hy D8 dn8 => ?_⟩⟩
            have hj : j < ss.length := by
              rw [← S6.len]
              exact (List.getElem?_eq_some_iff.mp hy).1
            have S8 := (S6.same sE).dn DE dn8
            obtain ⟨t2, p2, rfl, ht2, hp2⟩ := S8.at_ j y ss[j] hy (List.getElem?_eq_getElem hj)
            have g2 := G6.all ss[j] (List.getElem_mem hj)
            refine ⟨t2, _, 1, .ref p2, rfl, rfl, SqT.of ht2, rfl, d, p2, high, ss[j].w, _, ss[j].rs, rfl, D8, (by show _ ≤ 1000000000000; omega), hp2, g2.pic, fun p3 rs3 H9 pr3 np3 hp3 D9 dn9 => ?_⟩
            exact ⟨p3, ss[j].w, rs3, rfl, pr3, g2.w8, hp3, (F6.same sE).dn DE nl (dn8.trans dn9), D9.le (by omega), (dn6.trans (Do.same sE)).trans (dn8.trans dn9)⟩
          | false =>
            refine iteF ⟨.ref l, rfl, by show 0 ≤ sizeLine; decide, fun e1 he1 => ⟨.list (ss.map sD), .list [], .lst (SqL.of (same_upd he1 _ _ (sE _ _ hxs))) (dp_shs ((S6.same sE).same (same_upd he1))), .lst (SqL.of upd_same) .nil, shaped_shs G6.all, by decide +kernel, _, rfl, iteY (neD_ne e) ⟨.int way, rfl, rfl, _, rfl, ?_⟩⟩⟩
            have sE2 := sE.trans (same_upd (o := .lst []) he1)
            have DE2 := D6.same sE2
            cases decide (V.int way = V.int 1) with
            | false => exact iteF (again _ sE2)
            | true =>
              refine iteT ⟨.ref d, rfl, .ref l, rfl, d, .ref l, _, rfl, DE2, (by show _ ≤ 1000000000000; omega), .inl ⟨l, xs, rfl, nl, sE2 _ _ hxs, hpos, lx, fun j y H8 hy D8 dn8 => ?_⟩⟩
              have hj : j < ss.length := by
                rw [← S6.len]
                exact (List.getElem?_eq_some_iff.mp hy).1
              have S8 := (S6.same sE2).dn DE2 dn8
              obtain ⟨t2, p2, rfl, ht2, hp2⟩ := S8.at_ j y ss[j] hy (List.getElem?_eq_getElem hj)
              have g2 := G6.all ss[j] (List.getElem_mem hj)
              generalize ss[j] = s2' at g2 hp2 ht2
              have hp8 : H8 p = some (.tup (rs.map rv)) := by
                obtain ⟨a1, b1, c1, hd1, _⟩ := id DE2
                exact dn8 _ _ (sE2 _ _ hp) (ne_of (sE2 _ _ hp) hd1 (by intro z; cases z))
              have F8 := (F6.same sE2).dn DE2 nl dn8
              have dn68 := (dn6.trans (Do.same sE2)).trans dn8
              have hl1 := g2.pic.len
              have hl2 := pr.len
              have hw1 := g2.w8
              refine ⟨t2, _, 1, .ref p2, rfl, rfl, SqT.of ht2, rfl, .ref p, rfl, .tup p2, .tup p, s2'.rs.map rv, rs.map rv, rfl, SqT.of hp2, SqT.of hp8, fun D5' hD5 => lc_zipG (K := K) (A := .tup p2) (B := .tup p) (xs := s2'.rs.map rv) (ys := rs.map rv) (by rw [List.length_map, List.length_map, hl1, hl2]) (fun i H9 => Same H8 H9 ∧ H9 D5' = some (.lst ((((s2'.rs.zip rs).take i).map fun q => q.1 ++ q.2).map rv))) ⟨same_upd hD5, upd_same⟩ (fun i H9 _ z => ⟨SqT.of (z.1 _ _ hp2), SqT.of (z.1 _ _ hp8)⟩) ?_ ?_⟩
              · rintro i x y H9 T' hx hy ⟨sm, h9⟩ hT
                obtain ⟨l1, hl1', rfl⟩ := map_at2 hx
                obtain ⟨m1', hm1, rfl⟩ := map_at2 hy
                have hz' : (s2'.rs.zip rs)[i]? = some (l1, m1') := List.getElem?_zip_eq_some.mpr ⟨hl1', hm1⟩
                have sT := same_upd (o := .tup [rv l1, rv m1']) hT
                have q1 := (g2.pic.row l1 (List.mem_of_getElem? hl1')).len
                have q2 := (pr.row m1' (List.mem_of_getElem? hm1)).len
                have q3 : i < s2'.rs.length := (List.getElem?_eq_some_iff.mp hl1').1
                refine ⟨T', _, rfl, SqT.of upd_same, rfl, _, _, rfl, _, _, rfl, rfl, rfl, rv l1, rfl, rv m1', rfl, S l1, S m1', rfl, rfl, ?_, ?_⟩
                · rw [SX.S_len, SX.S_len]
                  exact Nat.le_of_lt (small1000 (by omega))
                · rw [SX.S_cat]
                  refine ⟨_, sT _ _ h9, ?_, same_over (sm.trans sT) hD5, ?_⟩
                  · rw [List.length_map, List.length_map, List.length_take]
                    exact small1000 (by omega)
                  · rw [upd_same, take_snoc hz', List.map_append, List.map_append]
                    rfl
              · rintro H9 ⟨sm, h9⟩
                have e9 : (s2'.rs.zip rs).take (s2'.rs.map rv).length = s2'.rs.zip rs := by
                  apply List.take_of_length_le
                  rw [List.length_map, List.length_zip]
                  omega
                rw [e9] at h9
                have rows9 : ∀ r ∈ (s2'.rs.zip rs).map fun q => q.1 ++ q.2, r.length = s2'.w + w1' ∧ ∀ c ∈ r, c = 35 ∨ c = 46 := by
                  intro r hr'
                  obtain ⟨⟨u, v⟩, huv, rfl⟩ := List.mem_map.mp hr'
                  obtain ⟨hu, hv⟩ := List.of_mem_zip huv
                  have q1 := g2.pic.row u hu
                  have q2 := pr.row v hv
                  refine ⟨by rw [List.length_append, q1.len, q2.len], fun c hc => ?_⟩
                  rcases List.mem_append.mp hc with z | z
                  · exact q1.sg c z
                  · exact q2.sg c z
                have len9 : ((s2'.rs.zip rs).map fun q => q.1 ++ q.2).length = high := by
                  rw [List.length_map, List.length_zip]
                  omega
                generalize (s2'.rs.zip rs).map (fun q => q.1 ++ q.2) = ls at h9 rows9 len9
                refine ⟨D5', _, rfl, .inl ⟨SqL.of h9, fun p5 hp5 => ?_⟩⟩
                have s5 := same_upd (o := .tup (ls.map rv)) hp5
                refine ⟨.ref p5, rfl, p5, rfl, ⟨_, SqT.of upd_same⟩, fun D6' hD6 => lc_tup (K := K) (a := p5) (xs := ls.map rv) (fun i H10 => Same (upd H9 p5 (.tup (ls.map rv))) H10 ∧ H10 D6' = some (.lst (((ls.take i).map fun r => r.take wide).map rv))) ⟨same_upd hD6, upd_same⟩ (fun i H10 _ z => SqT.of (z.1 _ _ upd_same)) ?_ ?_⟩
                · rintro i x H10 hi ⟨sm10, h10⟩
                  obtain ⟨r, hr', rfl⟩ := map_at2 hi
                  have lr := (rows9 r (List.mem_of_getElem? hr')).1
                  have q3 : i < ls.length := (List.getElem?_eq_some_iff.mp hr').1
                  refine ⟨rfl, rv r, rfl, .int wide, rfl, wide, rfl, S r, rfl, ?_, ?_⟩
                  · rw [SX.S_len]
                    exact Nat.le_of_lt (small1000 (by omega))
                  · rw [cutS_to]
                    refine ⟨_, h10, ?_, same_over sm10 hD6, ?_⟩
                    · rw [List.length_map, List.length_map, List.length_take]
                      exact small1000 (by omega)
                    · rw [upd_same, take_snoc hr', List.map_append, List.map_append]
                      rfl
                · rintro H10 ⟨sm10, h10⟩
                  rw [List.length_map, List.take_length] at h10
                  refine ⟨D6', _, rfl, .inl ⟨SqL.of h10, fun p7 hp7 => ?_⟩⟩
                  have s7 := same_upd (o := .tup ((ls.map fun r => r.take wide).map rv)) hp7
                  have sAll : Same H8 (upd H10 p7 (.tup ((ls.map fun r => r.take wide).map rv))) := ((sm.trans s5).trans sm10).trans s7
                  have pw0 := pr.w0
                  refine ⟨p7, min wide (s2'.w + w1'), ls.map fun r => r.take wide, rfl, ⟨by rw [List.length_map]; exact len9, fun r hr' => ?_, h0, h1, by omega, by omega⟩, by omega, upd_same, F8.same sAll, (D8.same sAll).le (by omega), dn68.trans (Do.same sAll)⟩
                  obtain ⟨u, hu, rfl⟩ := List.mem_map.mp hr'
                  obtain ⟨q1, q2⟩ := rows9 u hu
                  exact ⟨by rw [List.length_take, q1], fun c hc => q2 c (List.mem_of_mem_take hc)⟩
      rintro _ H7 ⟨p, w1, rs, rfl, pr, hw, hp, F7, D7, dn7⟩
      obtain ⟨xs, hxs, S7, G7⟩ := id F7
      have fin0 : ∀ H8, Same H7 H8 → ∃ (y6 y7 y8 : Option V) (ss : List Sh), ([some (.ref d), some (.int high), some (.int most), some (.int wide), some (.ref l), some (.str (S zl)), some tv, some (.int way), some (.ref p), none, none, none, none] : L2.St) = [some (.ref d), some (.int high), some (.int most), some (.int wide), some (.ref l), some (.str (S zl)), y6, y7, y8, none, none, none, none] ∧ FdI l high wide H8 ss ∧ ss.length ≤ i + 1 ∧ Du H8 d (n + 2 + 20100 * (i + 1)) ∧ Do d H H8 :=
        fun H8 s8 => ⟨_, _, _, ss, rfl, F7.same s8, by omega, (D7.same s8).le (by omega), dn7.trans (Do.same s8)⟩
      refine ⟨⟨"", rfl⟩, .ref p, rfl, "", p, rs.map S, rfl, rfl, .inr (SqT.of (by rw [List.map_map]; exact hp)), ?_, ?_⟩
      · rw [lens_flat (w := w1) fun r hr' => (pr.row r hr').len, pr.len]
        have := Nat.mul_le_mul h1 (show w1 ≤ 60 by omega)
        show high * w1 + _ * 0 ≤ 16777216
        omega
      rw [join_flat]
      refine ⟨35, S rs.flatten, congrArg V.str s_hash, rfl, _, rfl, ite2 (fun e => ?_) (fun e => iteF (fin0 _ (Same.refl _)))⟩
      have hdot : ∃ r ∈ rs, 35 ∈ r := by
        refine has_dot ?_
        have := of_decide_eq_true e
        simpa [S] using this
      refine ⟨.ref p, rfl, .ref l, rfl, l, rfl, ⟨_, SqL.of hxs⟩, fun Dd hDd => lc_list (K := K) (a := l) (xs := xs) (fun j H8 => Same H7 H8 ∧ ∃ zs, H8 Dd = some (.lst zs) ∧ Pcs H8 zs (ss.take j)) ⟨same_upd hDd, [], upd_same, ⟨rfl, fun i z s h => nomatch h⟩⟩ (fun j H8 _ z => SqL.of (z.1 _ _ hxs)) ?_ ?_⟩
      · rintro j x H8 hj ⟨sm, zs, hz, pc⟩
        have hj' : j < ss.length := by
          rw [← S7.len]
          exact (List.getElem?_eq_some_iff.mp hj).1
        have es : ss[j]? = some ss[j] := List.getElem?_eq_getElem hj'
        generalize ss[j] = s2' at es
        obtain ⟨t2, p2, rfl, ht2, hp2⟩ := S7.at_ j x s2' hj es
        have nD : p2 ≠ Dd := ne_of (sm _ _ hp2) hz (by intro z; cases z)
        refine ⟨t2, _, rfl, SqT.of (sm _ _ ht2), rfl, _, _, rfl, _, _, rfl, rfl, rfl, .ref p2, rfl, zs, hz, ?_, same_over sm hDd, _, upd_same, ?_⟩
        · rw [pc.len, List.length_take]
          exact small1000 (by omega)
        · rw [take_snoc es]
          exact (pc.updl hz).add (by rw [upd_ne nD]; exact sm _ _ hp2)
      · rintro H8 ⟨sm, zs, hz, pc⟩
        rw [S7.len, List.take_length] at pc
        refine ⟨.tuple (rs.map rD), ss.map pDs, .tup (SqT.of (sm _ _ hp)) (dp_rows _), .lst (SqL.of hz) (dp_pcs pc), shaped_rows pr.rows, shaped_pics G7.all, _, rfl, ?_⟩
        rw [any_pics]
        by_cases e2 : rs ∈ ss.map (·.rs)
        · rw [decide_eq_true e2]
          exact iteF (fin0 _ sm)
        · rw [decide_eq_false e2]
          have D8 := D7.same sm
          refine iteT ⟨.ref l, rfl, .inl ⟨rfl, _, SqL.of (sm _ _ hxs)⟩, .ref d, rfl, .str (S zl), rfl, .ref d, rfl, d, 6, _, rfl, D8, (by show _ ≤ 1000000000000; omega), by decide, by decide, fun m H9 mm0 mm1 D9 dn9 => ⟨1, m, rfl, rfl, _, rfl, S zl, rfl, ?_, ?_⟩⟩
          · rw [SX.S_len, zlen]
            decide
          obtain ⟨m, rfl⟩ := Int.eq_ofNat_of_zero_le mm0
          have em : (1 + (m : Int)) = ((1 + m : Nat) : Int) := by omega
          rw [em, cutS_to]
          refine ⟨d, .str (S (zl.take (1 + m))), _, rfl, D9, (by show _ ≤ 1000000000000; omega), .inr ⟨_, rfl, ?_, ?_, fun c H10 hc D10 dn10 => ?_⟩⟩
          · rw [SX.S_len, List.length_take, zlen]
            omega
          · rw [SX.S_len, List.length_take, zlen]
            omega
          have hc' : c ∈ zl := by
            have : c ∈ zl.take (1 + m) := by simpa [S] using hc
            exact List.mem_of_mem_take this
          have cc := zsg c hc'
          refine ⟨.ref p, rfl, by show 2 ≤ sizeLine; decide, fun T' hT => ?_⟩
          have dnB := dn9.trans dn10
          have F10 := (F7.same sm).dn D8 nl dnB
          obtain ⟨xs2, hx2, S10, _⟩ := id F10
          have sT := same_upd (o := .tup [V.str ⟨#[c]⟩, V.ref p]) hT
          have hp10 : H10 p = some (.tup (rs.map rv)) := by
            obtain ⟨a1, b1, c1, hd1, _⟩ := id D8
            exact dnB _ _ (sm _ _ hp) (ne_of (sm _ _ hp) hd1 (by intro z; cases z))
          have nlT : T' ≠ l := (ne_of_none hx2 hT).symm
          have npl : p ≠ l := ne_of hp10 hx2 (by intro z; cases z)
          refine ⟨l, xs2, .ref T', rfl, rfl, sT _ _ hx2, ?_, _, _, _, ss ++ [⟨c, w1, rs⟩], rfl, ⟨_, upd_same, ((S10.same sT).updl (sT _ _ hx2)).add ⟨T', p, rfl, ?_, ?_⟩, G7.add ⟨pr, hw, cc.1, cc.2, hdot⟩ e2⟩, ?_, ?_, ?_⟩
          · rw [S10.len]
            exact small1000 (by omega)
          · rw [upd_ne nlT]
            exact upd_same
          · rw [upd_ne npl]
            exact sT _ _ hp10
          · rw [List.length_append, List.length_singleton]
            omega
          · exact ((D10.same sT).upd nl).le (by omega)
          · exact ((dn7.trans (Do.same sm)).trans (dnB.trans (Do.same sT))).upd hl
    · rintro σ H5 ⟨y6, y7, y8, ss, rfl, F5, sl5, D5, dn5⟩
      obtain ⟨xs, hxs, S5, G5⟩ := id F5
      refine ⟨.ref l, rfl, by show 0 ≤ sizeLine; decide, fun e0 he0 => ⟨.list (ss.map sD), .list [], .lst (SqL.of (same_upd he0 _ _ hxs)) (dp_shs (S5.same (same_upd he0))), .lst (SqL.of upd_same) .nil, shaped_shs G5.all, by decide +kernel, _, rfl, ?_⟩⟩
      have sE := same_upd (o := .lst []) he0
      by_cases e : ss = []
      · refine iteE (neD_nil e) ⟨by show 1 ≤ sizeLine; decide, fun t1 ht1 => ⟨.int high, rfl, rep_any upd_same h0 (by omega) fun z H6 s6 hz => ⟨by show 2 ≤ sizeLine; decide, fun t2 ht2 => ⟨by show 1 ≤ sizeLine; decide, fun l3 hl3 => ?_⟩⟩⟩⟩
        have s1 := same_upd (o := .tup [V.str "#"]) ht1
        have s2' := same_upd (o := .tup [V.str "a", V.ref z]) ht2
        have s3 := same_upd (o := .lst [V.ref t2]) hl3
        have sAll := (((sE.trans s1).trans s6).trans s2').trans s3
        have hz3 := s3 _ _ (s2' _ _ hz)
        have ea : ("a" : Str) = S [97] := by decide +kernel
        refine q l3 [.ref t2] [⟨97, 1, List.replicate high [35]⟩] _ ?_ upd_same (Shs.nil.add ⟨t2, z, rfl, ?_, ?_⟩) (Goods.nil.add ⟨⟨List.length_replicate, fun r hr' => ?_, h0, h1, Nat.le_refl _, (by show (1 : Nat) ≤ 120; decide)⟩, w0, (by show (33 : Nat) ≤ 97; decide), (by show (97 : Nat) ≤ 126; decide), [35], ?_, List.mem_singleton.mpr rfl⟩ (fun h => nomatch h)) Nat.zero_lt_one m0 ((D5.same sAll).le (by omega)) (dn5.trans (Do.same sAll))
        · exact dn5.nn D5 ((((sE.trans s1).trans s6).trans s2').free hl3)
        · have := s3 _ _ (upd_same (H := H6) (a := t2) (o := .tup [V.str "a", V.ref z]))
          rw [ea] at this
          rw [ea]
          exact this
        · rw [hz3]
          show _ = some (HO.tup ((List.replicate high [35]).map rv))
          rw [List.map_replicate, s_hash]
          rfl
        · rw [(List.mem_replicate.mp hr').2]
          exact ⟨rfl, fun c hc => .inl (List.mem_singleton.mp hc)⟩
        · exact List.mem_replicate.mpr ⟨by omega, rfl⟩
      · refine iteY (neD_ne e) ⟨.ref l, rfl, ?_⟩
        exact q l xs ss _ hl (sE _ _ hxs) (S5.same sE) G5 (List.length_pos_iff.mpr e) (by omega) ((D5.same sE).le (by omega)) (dn5.trans (Do.same sE))
end
end Dt
namespace Dt
open PySem PySem.Spec PyProof.Rows L2 L2X
open SX (S)
/-! ### _law_line -/
abbrev sLn : Stmt := topS 45
abbrev nLn : List Str := ["draw", "high", "wide", "shapes", "way", "rows", "sign", "one", "gap", "line", "turn", "row", "more"]
theorem scLn : FnScope nLn ["draw", "high", "wide", "shapes"] (defScope sLn) := ⟨rfl, rfl, rfl, by decide +kernel, rfl, by decide +kernel, by decide +kernel⟩
def spLn : Sp := fun vs H Q _ => ∃ (d sh : Addr) (high wide w8 n : Nat) (xs : List V) (ss : List Sh), vs = [.ref d, .int high, .int wide, .ref sh] ∧ Du H d n ∧ n + 100000 ≤ fuel ∧ 1 ≤ high ∧ high ≤ 60 ∧ 1 ≤ wide ∧ wide ≤ 60 ∧ w8 ≤ 60 ∧ sh ≠ d ∧ H sh = some (.lst xs) ∧ Shs H xs ss ∧ Goods high w8 ss ∧ 0 < ss.length ∧ ss.length ≤ 100 ∧
  ∀ (p : Addr) (rs : List (List Nat)) (H' : Hp), PicR high wide rs → H p = none → H' p = some (.tup (rs.map rv)) → Du H' d (n + 100000) → Do d H H' → Q (.ref p) H'
/-- the rows as they grow -/
def LnW (d sh : Addr) (high wide n : Nat) (xs : List V) (ss : List Sh) (way : V) (H : Hp) (m : Nat) (σ : L2.St) (H' : Hp) : Prop :=
  ∃ (y6 y7 y8 y9 y10 : Option V) (r : Addr) (cw : Nat) (ls : List (List Nat)), σ = [some (.ref d), some (.int high), some (.int wide), some (.ref sh), some way, some (.ref r), y6, y7, y8, y9, y10, none, none] ∧ m = wide - cw ∧ cw ≤ wide + 64 ∧
  H' r = some (.lst (ls.map rv)) ∧ r ≠ d ∧ ls.length = high ∧ (∀ l ∈ ls, l.length = cw ∧ ∀ c ∈ l, c = 35 ∨ c = 46) ∧ H' sh = some (.lst xs) ∧ Shs H' xs ss ∧ Du H' d (n + 1 + 2 * cw) ∧ Do d H H'
section
variable {P : Program} {w : World} {K : PySem.W.Frag} {mg : Str → Option Value} {base : Heap}
theorem ok_ln {f : Addr} {fd : FuncData} {k : Nat} (F : Fun K "_law_line" "_law_line" sLn f fd) (T : Tx mg) (hz : mg "zip" = none) (GN : Pm P w K mg base CX0 (k + 3) "_law_next" ["draw", "below"] spNx) (GK : Pm P w K mg base CX0 (k + 3) "_law_pick" ["draw", "some"] (spPk K))
    (GP : Pm P w K mg base CX0 (k + 3) "_law_picture" ["draw", "high", "wide", "dense"] spPc) (GR : Pm P w K mg base CX0 (k + 3) "_law_near" ["draw", "picture"] spNr) : FnOk P w K mg base CX0 (k + 4) f fd ["draw", "high", "wide", "shapes"] spLn := by
  obtain ⟨fN, fdN, GN, mN, kN, bN⟩ := GN.ex
  obtain ⟨fK, fdK, GK, mK, kK, bK⟩ := GK.ex
  obtain ⟨fP, fdP, GP, mP, kP, bP⟩ := GP.ex
  obtain ⟨fR, fdR, GR, mR, kR, bR⟩ := GR.ex
  refine F.ok scLn (fun vs H Q E h => ?_) (fun cdv A outer s H vs Q E hr h => ?_)
  · obtain ⟨d, sh, high, wide, w8, n, xs, ss, rfl, _⟩ := h
    rfl
  · obtain ⟨d, sh, high, wide, w8, n, xs, ss, rfl, D, hn, h0, h1, w0, w1, w8', nsh, hsh, Ss, Gs, ss0, ss1, q⟩ := h
    have nd := scLn.nd
    refine ⟨_, pss_cons (ps_set (i := 4) nd rfl (.inl rfl) (pe_call GN hr (by rfl) mN kN bN .nil pass0 (pa_cons (pv 0) (pa_cons pe_int pa_nil))))
      (pss_cons (ps_if (pt_cmpR op_eq (pv 4) pe_int (nomark _)) (pss_one (ps_ret (pe_call GP hr (by rfl) mP kP bP .nil pass0 (pa_cons (pv 0) (pa_cons (pv 1) (pa_cons (pv 2) (pa_cons (pe_call GN hr (by rfl) mN kN bN .nil pass0 (pa_cons (pv 0) (pa_cons pe_int pa_nil))) pa_nil))))))) pss_nil)
      (pss_cons (ps_set (i := 5) nd rfl (.inl rfl) (pe_op op_rep (pe_lst (pa_cons pe_str pa_nil)) (pv 1)))
      (pss_cons (ps_while PassesOwn.never (pt_cmpR op_lt (pe_callB call_len_str (by rfl) T.len PySem.boot_len (pa_cons (pe_ix ix_list (pv 5) pe_int (fun _ _ => rfl)) pa_nil)) (pv 2) (nomark _))
        (pss_cons (ps_asg (pe_call GK hr (by rfl) mK kK bK .nil pass0 (pa_cons (pv 0) (pa_cons (pv 3) pa_nil))) (pg_tup rfl (pgs_cons (pg_name (i := 6) nd rfl (Or.inl rfl)) (pgs_cons (pg_name (i := 7) nd rfl (Or.inl rfl)) pgs_nil))))
        (pss_cons (ps_set (i := 8) nd rfl (.inr rfl) (pe_op op_mul_str pe_str (pe_call GK hr (by rfl) mK kK bK .nil pass0 (pa_cons (pv 0) (pa_cons (pe_lst (pa_cons pe_int (pa_cons pe_int (pa_cons pe_int (pa_cons pe_int (pa_cons pe_int (pa_cons pe_int pa_nil))))))) pa_nil)))))
        (pss_one (ps_setLc (i := 5) (own := [("row", 11), ("more", 12)]) (g := gTup K 2 (gCons (gName 11) (gCons (gName 12) gNil))) (tt := tYes) (by rfl) nd rfl rfl (sw_true rfl rfl rfl (by decide +kernel)) (pi_zipG (by rfl) hz (pa_cons (pv 5) (pa_cons (pv 7) pa_nil))) (blkOk_by (N := nLn) (sc := defScope sLn) (by decide +kernel))
            (fun _ _ _ _ _ => pg_tup rfl (pgs_cons (pg_name (i := 11) nd rfl (Or.inl rfl)) (pgs_cons (pg_name (i := 12) nd rfl (Or.inl rfl)) pgs_nil))) (fun _ _ _ _ _ => pts_nil) (fun _ _ _ _ _ => pe_op op_add_str (pe_op op_add_str (pv 11) (pv 8)) (pv 12)))))))
      (pss_cons (ps_set (i := 9) nd rfl (.inl rfl) (pe_callTy call_tuple_of (by rfl) T.tuple (by decide +kernel) (pa_cons (pe_lc (own := [("row", 11)]) (g := gName 11) (tt := tYes) rfl nd (pi_list (pv 5)) (blkOk_by (N := nLn) (sc := defScope sLn) (by decide +kernel)) (fun _ _ _ _ _ => pg_name (i := 11) nd rfl (Or.inl rfl)) (fun _ _ _ _ _ => pts_nil)
            (fun _ _ _ _ _ => pe_slice sl_str (pv 11) po_none (po_some (pv 2)))) pa_nil)))
      (pss_cons (ps_for PassesOwn.never rfl (pi_range1 rfl T.range (pa_cons (pe_call GK hr (by rfl) mK kK bK .nil pass0 (pa_cons (pv 0) (pa_cons (pe_lst (pa_cons pe_int (pa_cons pe_int (pa_cons pe_int (pa_cons pe_int (pa_cons pe_int pa_nil)))))) pa_nil))) pa_nil)) (pg_name (i := 10) nd rfl (.inl rfl))
        (pss_one (ps_set (i := 9) nd rfl (.inl rfl) (pe_call GR hr (by rfl) mR kR bR .nil pass0 (pa_cons (pv 0) (pa_cons (pv 9) pa_nil))))))
      (pss_one (ps_ret (pv 9)))))))), ?_⟩
    have fu : n + 100000 ≤ 1000000000000 := hn
    refine ⟨.ref d, rfl, d, 6, n, rfl, D, (by show n ≤ 1000000000000; omega), by decide, by decide, fun way H1 wa0 wa1 D1 dn1 => ?_⟩
    refine ⟨.int way, rfl, rfl, _, rfl, ?_⟩
    have nn : ∀ p, H1 p = none → H p = none := fun p hp => dn1.nn D1 hp
    cases decide (V.int way = V.int 0) with
    | true =>
      refine iteT ⟨.ref d, rfl, .int high, rfl, .int wide, rfl, .ref d, rfl, d, 11, _, rfl, D1, (by show _ ≤ 1000000000000; omega), by decide, by decide, fun den H2 de0 de1 D2 dn2 => ?_⟩
      refine ⟨d, high, wide, _, den, rfl, D2, (by show _ ≤ 1000000000000; omega), h0, h1, w0, by omega, fun p rs H3 pr np hp D3 dn3 => ?_⟩
      exact q p rs H3 pr (nn p (dn2.nn D2 np)) hp (D3.le (by omega)) (dn1.trans (dn2.trans dn3))
    | false =>
      refine iteF ⟨by show 1 ≤ sizeLine; decide, fun l0 hl0 => ⟨.int high, rfl, l0, high, [V.str ""], rfl, rfl, upd_same, by omega, by omega, ?_, fun r hr' => ?_⟩⟩
      · rw [Int.toNat_natCast]
        show 1 * high ≤ sizeLine
        have := small1000 (show high ≤ 1000 by omega)
        omega
      have sl0 := same_upd (o := .lst [V.str ""]) hl0
      have erep : (List.replicate (high : Int).toNat [V.str ""]).flatten = (List.replicate high ([] : List Nat)).map rv := by
        rw [Int.toNat_natCast, List.map_replicate]
        have flat : ∀ n : Nat, (List.replicate n [V.str ""]).flatten = List.replicate n (rv []) := by
          intro n
          induction n with
          | zero => rfl
          | succ n ih =>
            rw [List.replicate_succ, List.flatten_cons, ih, List.replicate_succ, s_empty]
            rfl
        exact flat high
      have sr := same_upd (o := .lst (List.replicate (high : Int).toNat [V.str ""]).flatten) hr'
      have sA := sl0.trans sr
      have dnA := dn1.trans (Do.same sA)
      have W0 : LnW d sh high wide n xs ss (.int way) H wide [some (.ref d), some (.int high), some (.int wide), some (.ref sh), some (.int way), some (.ref r), none, none, none, none, none, none, none] (upd (upd H1 l0 (.lst [V.str ""])) r (.lst (List.replicate (high : Int).toNat [V.str ""]).flatten)) :=
        ⟨none, none, none, none, none, r, 0, List.replicate high [], rfl, rfl, by omega, by rw [upd_same, erep], (D1.same sl0).new hr', List.length_replicate, fun l hl => by
          rw [(List.mem_replicate.mp hl).2]
          exact ⟨rfl, fun c hc => nomatch hc⟩, dnA _ _ hsh nsh, Ss.dn D dnA, (D1.same sA).le (by omega), dnA⟩
      refine ⟨LnW d sh high wide n xs ss (.int way) H, ⟨wide, W0⟩, ?_⟩
      rintro m σ H2 ⟨y6, y7, y8, y9, y10, r, cw, ls, rfl, rfl, hcw, hr2, nr, hls, rows, hsh2, Ss2, D2, dn2⟩
      have hpos : 0 < ls.length := by omega
      have e0 : ls[0]? = some ls[0] := List.getElem?_eq_getElem hpos
      have len0 := (rows _ (List.mem_of_getElem? e0)).1
      refine ⟨.ref r, rfl, r, _, 0, rv ls[0], rfl, rfl, SqL.of hr2, atI_nat (j := 0) (by rw [List.getElem?_map, e0]; rfl), S ls[0], rfl, ?_, .int wide, rfl, _, _, rfl, rfl, _, rfl, ite2 (fun e => ?_) (fun e => ?_)⟩
      · rw [SX.S_len, len0]
        exact Nat.le_of_lt (small1000 (by omega))
      · have hlt : cw < wide := by
          have := of_decide_eq_true e
          rw [SX.S_len, len0] at this
          omega
        refine ⟨fun σ' H' => ∃ m', m' < wide - cw ∧ LnW d sh high wide n xs ss (.int way) H m' σ' H', fun _ _ h => h, ?_⟩
        refine ⟨.ref d, rfl, .ref sh, rfl, d, .ref sh, _, rfl, D2, (by show _ ≤ 1000000000000; omega), .inl ⟨sh, xs, rfl, nsh, hsh2, by rw [Ss2.len]; exact ss0, by rw [Ss2.len]; omega, fun j y H3 hy D3 dn3 => ?_⟩⟩
        have hj : j < ss.length := by
          rw [← Ss2.len]
          exact (List.getElem?_eq_some_iff.mp hy).1
        have Ss3 := Ss2.dn D2 dn3
        obtain ⟨t2, p2, rfl, ht2, hp2⟩ := Ss3.at_ j y ss[j] hy (List.getElem?_eq_getElem hj)
        have g2 := Gs.all ss[j] (List.getElem_mem hj)
        generalize ss[j] = s2 at g2 hp2 ht2
        refine ⟨t2, _, rfl, SqT.of ht2, rfl, _, _, rfl, _, _, rfl, rfl, ?_⟩
        refine ⟨.ref d, rfl, by show 6 ≤ sizeLine; decide, fun l2 hl2 => ⟨d, .ref l2, _, rfl, D3.same (same_upd hl2), (by show _ ≤ 1000000000000; omega), .inl ⟨l2, _, rfl, D3.new hl2, upd_same, by decide, by decide, fun j2 y2 H4 hy2 D4 dn4 => ?_⟩⟩⟩
        obtain ⟨g, rfl, hg⟩ : ∃ g : Nat, y2 = .int (g : Int) ∧ g ≤ 4 := by
          rcases j2 with _ | _ | _ | _ | _ | _ | j2
          · cases hy2
            exact ⟨0, rfl, by decide⟩
          · cases hy2
            exact ⟨0, rfl, by decide⟩
          · cases hy2
            exact ⟨1, rfl, by decide⟩
          · cases hy2
            exact ⟨1, rfl, by decide⟩
          · cases hy2
            exact ⟨2, rfl, by decide⟩
          · cases hy2
            exact ⟨4, rfl, by decide⟩
          · cases hy2
        obtain ⟨go1, go2⟩ := gap_ok (show g ≤ 120 by omega)
        refine ⟨".", (g : Int), rfl, rfl, go1, ?_⟩
        rw [go2]
        have s2l := same_upd (o := .lst [V.int 0, V.int 0, V.int 1, V.int 1, V.int 2, V.int 4]) hl2
        have dn34 : Do d H2 H4 := dn3.trans ((Do.same s2l).trans dn4)
        have hr4 := dn34 _ _ hr2 nr
        have hp4 : H4 p2 = some (.tup (s2.rs.map rv)) := by
          obtain ⟨a1, b1, c1, hd1, _⟩ := id D3
          exact ((Do.same s2l).trans dn4) _ _ hp2 (ne_of hp2 hd1 (by intro z; cases z))
        have hl1 := g2.pic.len
        have hw8 := g2.w8
        refine ⟨.ref r, rfl, .ref p2, rfl, .lst r, .tup p2, ls.map rv, s2.rs.map rv, rfl, SqL.of hr4, SqT.of hp4, fun D5 hD5 => lc_zipG (K := K) (A := .lst r) (B := .tup p2) (xs := ls.map rv) (ys := s2.rs.map rv) (by rw [List.length_map, List.length_map, hls, hl1]) (fun i H5 => Same H4 H5 ∧ H5 D5 = some (.lst ((((ls.zip s2.rs).take i).map fun q => (q.1 ++ List.replicate g 46) ++ q.2).map rv))) ⟨same_upd hD5, upd_same⟩ (fun i H5 _ z => ⟨SqL.of (z.1 _ _ hr4), SqT.of (z.1 _ _ hp4)⟩) ?_ ?_⟩
        · rintro i x y H5 T' hx hy ⟨sm, h5⟩ hT
          obtain ⟨l1, hl1', rfl⟩ := map_at2 hx
          obtain ⟨m1', hm1, rfl⟩ := map_at2 hy
          have hz' : (ls.zip s2.rs)[i]? = some (l1, m1') := List.getElem?_zip_eq_some.mpr ⟨hl1', hm1⟩
          have sT := same_upd (o := .tup [rv l1, rv m1']) hT
          have q1 := (rows l1 (List.mem_of_getElem? hl1')).1
          have q2 := (g2.pic.row m1' (List.mem_of_getElem? hm1)).len
          have q3 : i < ls.length := (List.getElem?_eq_some_iff.mp hl1').1
          refine ⟨T', _, rfl, SqT.of upd_same, rfl, _, _, rfl, _, _, rfl, rfl, rfl, rv l1, rfl, .str (S (List.replicate g 46)), rfl, S l1, S (List.replicate g 46), rfl, rfl, ?_, rv m1', rfl, S l1 ++ S (List.replicate g 46), S m1', rfl, rfl, ?_, ?_⟩
          · rw [SX.S_len, SX.S_len, List.length_replicate]
            exact Nat.le_of_lt (small1000 (by omega))
          · rw [SX.S_cat, SX.S_len, SX.S_len, List.length_append, List.length_replicate]
            exact Nat.le_of_lt (small1000 (by omega))
          · rw [SX.S_cat, SX.S_cat]
            refine ⟨_, sT _ _ h5, ?_, same_over (sm.trans sT) hD5, ?_⟩
            · rw [List.length_map, List.length_map, List.length_take]
              exact small1000 (by omega)
            · rw [upd_same, take_snoc hz', List.map_append, List.map_append]
              rfl
        · rintro H5 ⟨sm, h5⟩
          have e5 : (ls.zip s2.rs).take (ls.map rv).length = ls.zip s2.rs := by
            apply List.take_of_length_le
            rw [List.length_map, List.length_zip]
            omega
          rw [e5] at h5
          have pw0 := g2.pic.w0
          have dn25 := dn34.trans (Do.same sm)
          refine ⟨wide - (cw + g + s2.w), by omega, _, _, _, _, _, D5, cw + g + s2.w, (ls.zip s2.rs).map fun q => (q.1 ++ List.replicate g 46) ++ q.2, rfl, rfl, by omega, h5, ?_, ?_, ?_, dn25 _ _ hsh2 nsh, Ss2.dn D2 dn25, (D4.same sm).le (by omega), dn2.trans dn25⟩
          · exact D4.new hD5
          · rw [List.length_map, List.length_zip]
            omega
          · intro u hu
            obtain ⟨⟨u1, u2⟩, hz', rfl⟩ := List.mem_map.mp hu
            obtain ⟨z1, z2⟩ := List.of_mem_zip hz'
            have q1 := rows u1 z1
            have q2 := g2.pic.row u2 z2
            refine ⟨by rw [List.length_append, List.length_append, List.length_replicate, q1.1, q2.len], fun c hc => ?_⟩
            rcases List.mem_append.mp hc with z | z
            · rcases List.mem_append.mp z with z | z
              · exact q1.2 c z
              · exact .inr (List.mem_replicate.mp z).2
            · exact q2.sg c z
      · have hge : wide ≤ cw := by
          refine Nat.le_of_not_lt fun lt => e (decide_eq_true ?_)
          rw [SX.S_len, len0]
          omega
        refine ⟨.ref r, rfl, r, rfl, ⟨_, SqL.of hr2⟩, fun D6' hD6 => lc_list (K := K) (a := r) (xs := ls.map rv) (fun i H10 => Same H2 H10 ∧ H10 D6' = some (.lst (((ls.take i).map fun r => r.take wide).map rv))) ⟨same_upd hD6, upd_same⟩ (fun i H10 _ z => SqL.of (z.1 _ _ hr2)) ?_ ?_⟩
        · rintro i x H10 hi ⟨sm10, h10⟩
          obtain ⟨u, hu, rfl⟩ := map_at2 hi
          have lr := (rows u (List.mem_of_getElem? hu)).1
          have q3 : i < ls.length := (List.getElem?_eq_some_iff.mp hu).1
          refine ⟨rfl, rv u, rfl, .int wide, rfl, wide, rfl, S u, rfl, ?_, ?_⟩
          · rw [SX.S_len]
            exact Nat.le_of_lt (small1000 (by omega))
          · rw [cutS_to]
            refine ⟨_, h10, ?_, same_over sm10 hD6, ?_⟩
            · rw [List.length_map, List.length_map, List.length_take]
              exact small1000 (by omega)
            · rw [upd_same, take_snoc hu, List.map_append, List.map_append]
              rfl
        · rintro H10 ⟨sm10, h10⟩
          rw [List.length_map, List.take_length] at h10
          refine ⟨D6', _, rfl, .inl ⟨SqL.of h10, fun p7 hp7 => ?_⟩⟩
          have s7 := same_upd (o := .tup ((ls.map fun r => r.take wide).map rv)) hp7
          have s27 := sm10.trans s7
          have pr7 : PicR high wide (ls.map fun r => r.take wide) := ⟨by rw [List.length_map]; exact hls, fun u hu => by
            obtain ⟨v, hv, rfl⟩ := List.mem_map.mp hu
            obtain ⟨q1, q2⟩ := rows v hv
            exact ⟨by rw [List.length_take, q1]; omega, fun c hc => q2 c (List.mem_of_mem_take hc)⟩, h0, h1, w0, by omega⟩
          have D7 := D2.same s27
          have dn7 := dn2.trans (Do.same s27)
          have np7 : H p7 = none := dn2.nn D2 (sm10.free hp7)
          generalize ls.map (fun r => r.take wide) = rs7 at pr7 s27 s7 D7 dn7 ⊢
          refine ⟨.ref d, rfl, by show 5 ≤ sizeLine; decide, fun l3 hl3 => ⟨d, .ref l3, _, rfl, D7.same (same_upd hl3), (by show _ ≤ 1000000000000; omega), .inl ⟨l3, _, rfl, D7.new hl3, upd_same, by decide, by decide, fun j2 y2 H11 hy2 D11 dn11 => ?_⟩⟩⟩
          obtain ⟨g, rfl, hg⟩ : ∃ g : Nat, y2 = .int (g : Int) ∧ g ≤ 3 := by
            rcases j2 with _ | _ | _ | _ | _ | j2
            · cases hy2
              exact ⟨0, rfl, by decide⟩
            · cases hy2
              exact ⟨0, rfl, by decide⟩
            · cases hy2
              exact ⟨1, rfl, by decide⟩
            · cases hy2
              exact ⟨2, rfl, by decide⟩
            · cases hy2
              exact ⟨3, rfl, by decide⟩
            · cases hy2
          have s3l := same_upd (o := .lst [V.int 0, V.int 0, V.int 1, V.int 2, V.int 3]) hl3
          have dn11' := (Do.same s3l).trans dn11
          have hp11 := dn11' _ _ (upd_same (H := H10) (a := p7) (o := .tup (rs7.map rv))) ((D2.same sm10).new hp7)
          refine ⟨(g : Int), rfl, by omega, by omega, for_range (lo := 0) (n := g) (fun i σ H12 => ∃ (y6 y7 y8 y10 : Option V) (p : Addr) (rs : List (List Nat)), σ = [some (.ref d), some (.int high), some (.int wide), some (.ref sh), some (.int way), some (.ref r), y6, y7, y8, some (.ref p), y10, none, none] ∧ PicR high wide rs ∧ H p = none ∧ H12 p = some (.tup (rs.map rv)) ∧ Du H12 d (n + 2 + 2 * cw + 10 * i) ∧ Do d H H12)
            ⟨_, _, _, _, p7, rs7, rfl, pr7, np7, hp11, D11.le (by omega), dn7.trans dn11'⟩ ?_ ?_⟩
          · rintro i σ H12 hi ⟨y6, y7, y8, y10, p, rs, rfl, pr, np, hp, D12, dn12⟩
            refine ⟨.ref d, rfl, .ref p, rfl, d, p, high, wide, _, rs, rfl, D12, (by show _ ≤ 1000000000000; omega), hp, pr, fun p3 rs3 H13 pr3 np3 hp3 D13 dn13 => ?_⟩
            exact ⟨_, _, _, _, p3, rs3, rfl, pr3, dn12.nn D12 np3, hp3, D13.le (by omega), dn12.trans dn13⟩
          · rintro σ H12 ⟨y6, y7, y8, y10, p, rs, rfl, pr, np, hp, D12, dn12⟩
            exact ⟨.ref p, rfl, q p rs H12 pr np hp (D12.le (by omega)) dn12⟩
end
end Dt
namespace L2X
open PySem PySem.Spec PyProof.Rows L2
theorem op_eqDK {X : Cx} {K : PySem.W.Frag} (hK : X.K = K) (hu : X.A.units + 64 < cLine) : OpR X (compareOp .Eq) (rEqD K) := by
  subst hK
  exact op_eqD hu
end L2X
namespace Dt
open PySem PySem.Spec PyProof.Rows L2 L2X
open SX (S)
theorem passX0 {X : Cx} : Passes (L2.CX X.prog X.w) X E0 := fun _ _ _ _ _ _ _ h => by
  obtain ⟨_, _, _, _, _, _, _, _, _, _, _, _, z⟩ := h
  exact z.elim
/-! ### an alphabet as it stands, made of what is right -/
theorem ahs : ¬ (("_high" : Str) = "_shapes") := by decide +kernel
def aF (h : Int) (t : Addr) : List (Str × V) := putF "_shapes" (.ref t) (putF "_high" (.int h) [])
theorem aF_eq (h : Int) (t : Addr) : aF h t = ([("_high", V.int h), ("_shapes", V.ref t)] : List (Str × V)) := by
  show (if ("_high" : Str) = "_shapes" then [(("_high" : Str), V.ref t)] else (("_high" : Str), V.int h) :: putF "_shapes" (V.ref t) []) = ([("_high", V.int h), ("_shapes", V.ref t)] : List (Str × V))
  rw [if_neg ahs]
  all_goals rfl
theorem aF_high (h : Int) (t : Addr) : (aF h t).lookup ("_high" : Str) = some (.int h) := by
  unfold aF
  rw [lookup_putF, if_neg ahs, lookup_putF, if_pos rfl]
theorem aF_shapes (h : Int) (t : Addr) : (aF h t).lookup ("_shapes" : Str) = some (.ref t) := by
  unfold aF
  rw [lookup_putF, if_pos rfl]
theorem aF_no (h : Int) (t : Addr) {m : Str} (h1 : ¬ m = "_shapes") (h2 : ¬ m = "_high") : (aF h t).lookup m = none := by
  unfold aF
  rw [lookup_putF, if_neg h1, lookup_putF, if_neg h2]
  rfl
def AlpAt (C : Addr) (H : Hp) (o : Addr) (high : Nat) (ss : List Sh) : Prop := ∃ dx t xs, H o = some (.ins C dx (aF high t)) ∧ H t = some (.tup xs) ∧ Shs H xs ss
theorem AlpAt.same {C : Addr} {H H' : Hp} {o : Addr} {high : Nat} {ss : List Sh} (h : AlpAt C H o high ss) (s : Same H H') : AlpAt C H' o high ss :=
  let ⟨dx, t, xs, h1, h2, h3⟩ := h; ⟨dx, t, xs, s _ _ h1, s _ _ h2, h3.same s⟩
/-- what is asked of the class -/
structure Tal (K : PySem.W.Frag) (mg : Str → Option Value) (C : Addr) : Prop where
  cl : Cls K C
  nH : NoAttr K C "_high"
  nS : NoAttr K C "_shapes"
  mC : mg "Alphabet" = some (.ref C)
/-- a method with its promise -/
structure Mm (P : Program) (w : World) (K : PySem.W.Frag) (mg : Str → Option Value) (base : Heap) (k : Nat) (C : Addr) (m : Str) (ps : List Str) (sp : Sp) : Prop where
  ex : ∃ f fd, FnOk P w K mg base CX0 k f fd ps sp ∧ Meth K C m f ∧ Binds K fd ps []
abbrev cAl : Stmt := topS 34
abbrev sSg : Stmt := topS 35
theorem scSg : FnScope ["thing"] ["thing"] (defScope sSg) := ⟨rfl, rfl, rfl, by decide +kernel, rfl, by decide +kernel, by decide +kernel⟩
def spSg : Sp := fun vs H Q _ => ∃ c, vs = [ch c] ∧ 33 ≤ c ∧ c ≤ 126 ∧ Q (.bl true) H
abbrev sIS : Stmt := topS 36
theorem scIS : FnScope ["thing", "high", "rows", "columns"] ["thing", "high"] (defScope sIS) := ⟨rfl, rfl, rfl, by decide +kernel, rfl, by decide +kernel, by decide +kernel⟩
def spIS : Sp := fun vs H Q _ => ∃ (x : V) (high : Nat) (s : Sh), vs = [x, .int high] ∧ ShAt H x s ∧ Good high 8 s ∧ ∀ H', Same H H' → Q (.bl true) H'
abbrev sIPO : Stmt := topS 37
theorem scIPO : FnScope ["picture", "shapes", "shape"] ["picture", "shapes"] (defScope sIPO) := ⟨rfl, rfl, rfl, by decide +kernel, rfl, by decide +kernel, by decide +kernel⟩
def spIPO : Sp := fun vs H Q _ => ∃ (a l : Addr) (high wide w2 : Nat) (rs : List (List Nat)) (xs : List V) (ss : List Sh), vs = [.ref a, .ref l] ∧ H a = some (.tup (rs.map rv)) ∧ RowsR high wide rs ∧ H l = some (.lst xs) ∧ Shs H xs ss ∧ (∀ s ∈ ss, Good high w2 s) ∧ ss.length ≤ 100 ∧ ∀ H', Same H H' → Q (.bl (decide (rs ∈ ss.map (·.rs)))) H'
theorem lt1 (a b : Nat) : decide ([a] < [b]) = decide (a < b) := by
  apply Bool.eq_iff_iff.mpr
  rw [decide_eq_true_iff, decide_eq_true_iff]
  exact List.cons_lt_cons_iff.trans (by simp)
theorem rowDots_ne {r : Nat} {l : List Nat} (h : 35 ∈ l) : rowDots r l ≠ [] := by
  obtain ⟨j, hj⟩ := List.mem_iff_getElem?.mp h
  intro e
  have hm : (35, j) ∈ l.zipIdx := List.mk_mem_zipIdx_iff_getElem?.mpr hj
  have : (r, j) ∈ rowDots r l := List.mem_map.mpr ⟨(35, j), List.mem_filter.mpr ⟨hm, by simp⟩, rfl⟩
  rw [e] at this
  cases this
theorem dotsP_pos {rs : List (List Nat)} (h : ∃ l ∈ rs, 35 ∈ l) : 0 < (dotsP rs).length := by
  obtain ⟨l, hl, hd⟩ := h
  obtain ⟨i, hi⟩ := List.mem_iff_getElem?.mp hl
  refine List.length_pos_iff.mpr fun e => ?_
  have hm : (l, i) ∈ rs.zipIdx := List.mk_mem_zipIdx_iff_getElem?.mpr hi
  unfold dotsP at e
  have := List.flatten_eq_nil_iff.mp e (rowDots i l) (List.mem_map.mpr ⟨(l, i), hm, rfl⟩)
  exact rowDots_ne hd this
section
variable {P : Program} {w : World} {K : PySem.W.Frag} {mg : Str → Option Value} {base : Heap} {C CA : Addr}
theorem ok_sg {f : Addr} {fd : FuncData} {k : Nat} (F : Fun K "is_sign" "is_sign" sSg f fd) (T : Tx mg) (GT : Pm P w K mg base CX0 (k + 1) "is_text" ["thing"] (spIsText K)) : FnOk P w K mg base CX0 (k + 2) f fd ["thing"] spSg := by
  obtain ⟨fT, fdT, GT, mT, kT, bT⟩ := GT.ex
  refine F.ok scSg (fun vs H Q E h => ?_) (fun cdv A outer s H vs Q E hr h => ?_)
  · obtain ⟨c, rfl, _⟩ := h
    rfl
  · obtain ⟨c, rfl, c0, c1, q⟩ := h
    refine ⟨_, pss_one (ps_ret (pe_and (pe_call GT hr (by rfl) mT kT bT .nil pass0 (pa_cons (pv 0) pa_nil)) (pe_and (pe_cmpR op_eq (pe_callB call_len_str (by rfl) T.len PySem.boot_len (pa_cons (pv 0) pa_nil)) pe_int (nomark _)) (pe_one (pe_chain op_le_str op_le_str pe_str (pv 0) pe_str))))), ?_⟩
    refine ⟨ch c, rfl, ch c, rfl, kn_str2 (by show 1 ≤ sizeLine; decide), _, rfl, iteT ⟨ch c, rfl, ⟨#[c]⟩, rfl, (by show 1 ≤ sizeLine; decide), rfl, _, rfl, iteT ?_⟩⟩
    have e1 : ("!" : Str) = S [33] := by decide +kernel
    have e2 : ("~" : Str) = S [126] := by decide +kernel
    refine ⟨ch c, rfl, "!", ⟨#[c]⟩, rfl, rfl, _, rfl, ?_⟩
    have t1 : (!decide ((⟨#[c]⟩ : Str).cps.toList < ("!" : Str).cps.toList)) = true := by
      rw [e1]
      show (!decide ([c] < [33])) = true
      rw [lt1, decide_eq_false (by omega)]
      rfl
    have t2 : (!decide (("~" : Str).cps.toList < (⟨#[c]⟩ : Str).cps.toList)) = true := by
      rw [e2]
      show (!decide ([126] < [c])) = true
      rw [lt1, decide_eq_false (by omega)]
      rfl
    refine iteY t1 ⟨⟨#[c]⟩, "~", rfl, rfl, ?_⟩
    rw [t2]
    exact q
theorem ok_is {f : Addr} {fd : FuncData} {k : Nat} (F : Fun K "_is_shape" "_is_shape" sIS f fd) (T : Tx mg) (mw : ∃ t, mg "MOST_WIDE" = some (.int 8 t)) (GU : Pm P w K mg base CX0 (k + 1) "is_tuple" ["thing", "many"] (spIsTup K)) (GG : Pm P w K mg base CX0 (k + 1) "is_sign" ["thing"] spSg)
    (GI : Pm P w K mg base CX0 (k + 1) "is_picture" ["thing"] (spIsPic K)) (GZ : GS P w K mg base C (k + 1)) (GD : Pm P w K mg base (L2.CX P w) (k + 1) "dots" ["picture"] (spDots K)) : FnOk P w K mg base CX0 (k + 2) f fd ["thing", "high"] spIS := by
  obtain ⟨fU, fdU, GU, mU, kU, bU⟩ := GU.ex
  obtain ⟨fG, fdG, GG, mG, kG, bG⟩ := GG.ex
  obtain ⟨fI, fdI, GI, mI, kI, bI⟩ := GI.ex
  obtain ⟨fZ, fdZ, GZ, mZ, kZ, bZ⟩ := GZ.ex
  obtain ⟨fD, fdD, GD, mD, kD, bD⟩ := GD.ex
  obtain ⟨tw, hmw⟩ := mw
  refine F.ok scIS (fun vs H Q E h => ?_) (fun cdv A outer s H vs Q E hr h => ?_)
  · obtain ⟨x, high, s, rfl, _⟩ := h
    rfl
  · obtain ⟨x, high, sh, rfl, ha, g, q⟩ := h
    have nd := scIS.nd
    refine ⟨_, pss_cons (ps_if (PW.pt (pw_or (pt_not (pt_val (pe_call GU hr (by rfl) mU kU bU .nil pass0 (pa_cons (pv 0) (pa_cons pe_int pa_nil))))) (pw_or (pt_not (pt_val (pe_call GG hr (by rfl) mG kG bG .nil pass0 (pa_cons (pe_ix (r := rIxT K) ix_tup (pv 0) pe_int (fun _ _ => rfl)) pa_nil)))) (pw_or1 (pt_not (pt_val (pe_call GI hr (by rfl) mI kI bI .nil pass0 (pa_cons (pe_ix (r := rIxT K) ix_tup (pv 0) pe_int (fun _ _ => rfl)) pa_nil))))))))
        (pss_one (ps_ret pe_bl)) pss_nil)
      (pss_cons (ps_asg (pe_call GZ hr (by rfl) mZ kZ bZ .nil passX0 (pa_cons (pe_ix (r := rIxT K) ix_tup (pv 0) pe_int (fun _ _ => rfl)) pa_nil)) (pg_tup rfl (pgs_cons (pg_name (i := 2) nd rfl (Or.inl rfl)) (pgs_cons (pg_name (i := 3) nd rfl (Or.inl rfl)) pgs_nil))))
      (pss_one (ps_ret (pe_and (pe_cmpR op_eq (pv 2) (pv 1) (nomark _)) (pe_and (pe_cmpR op_le (pv 3) (pe_glob (v := .int 8) (by rfl) hmw ⟨_, rfl⟩) (nomark _)) (pe_one (pe_cmpR op_gt (pe_callB call_len_seq (by rfl) T.len PySem.boot_len (pa_cons (pe_call GD hr (by rfl) mD kD bD .nil passX0 (pa_cons (pe_ix (r := rIxT K) ix_tup (pv 0) pe_int (fun _ _ => rfl)) pa_nil)) pa_nil)) pe_int (nomark _)))))))), ?_⟩
    obtain ⟨t, p, rfl, ht, hp⟩ := id ha
    refine ⟨.ref t, rfl, .ref t, 2, rfl, .inr ⟨t, _, rfl, SqT.of ht, _, rfl, iteF ?_⟩⟩
    refine ⟨.ref t, rfl, t, _, 0, ch sh.sg, rfl, rfl, SqT.of ht, rfl, sh.sg, rfl, g.s0, g.s1, _, rfl, iteF ?_⟩
    refine ⟨.ref t, rfl, t, _, 1, .ref p, rfl, rfl, SqT.of ht, rfl, .ref p, true, rfl, askPic g.pic hp, fun H1 s1 => ⟨_, rfl, iteF ?_⟩⟩
    have pz := picSize g.pic
    refine ⟨.ref t, rfl, t, _, 1, .ref p, rfl, rfl, SqT.of (s1 _ _ ht), rfl, .ref p, rfl, .inr ⟨p, _, rfl, SqT.of (s1 _ _ hp), kn_rows g.pic, picOk_pic g.pic, fun p3 H3 s3 n3 h3 => ?_⟩⟩
    rw [pz.1, pz.2] at h3
    have s13 := s1.trans s3
    refine ⟨p3, _, rfl, SqT.of h3, rfl, _, _, rfl, _, _, rfl, rfl, .int high, rfl, .int high, rfl, rfl, _, rfl, ?_⟩
    rw [decide_eq_true rfl]
    refine iteT ⟨.int sh.w, rfl, sh.w, 8, rfl, rfl, _, rfl, iteY (decide_eq_true (by have := g.w8; omega)) ?_⟩
    refine ⟨.ref t, rfl, t, _, 1, .ref p, rfl, rfl, SqT.of (s13 _ _ ht), rfl, p, high, sh.w, sh.rs, rfl, s13 _ _ hp, g.pic, fun D xs H4 s4 nD hD pl lx => ?_⟩
    have l0 : 0 < xs.length := by
      rw [pl.len]
      exact dotsP_pos g.dot
    refine ⟨D, xs, rfl, .inl (SqL.of hD), (xs.length : Int), 0, rfl, rfl, ?_⟩
    have e : (decide ((0 : Int) < (xs.length : Int))) = true := decide_eq_true (by omega)
    show Q (.bl (decide ((0 : Int) < (xs.length : Int)))) H4
    rw [e]
    exact q H4 (s13.trans s4)
theorem ok_ipo {f : Addr} {fd : FuncData} {k : Nat} (F : Fun K "_is_picture_of" "_is_picture_of" sIPO f fd) (an : mg "any" = none) : FnOk P w K mg base CX0 (k + 1) f fd ["picture", "shapes"] spIPO := by
  refine F.ok scIPO (fun vs H Q E h => ?_) (fun cdv A outer s H vs Q E hr h => ?_)
  · obtain ⟨a, l, _, _, _, _, _, _, rfl, _⟩ := h
    rfl
  · obtain ⟨a, l, high, wide, w2, rs, xs, ss, rfl, ha, R, hl, Ss, Gs, ls, q⟩ := h
    have nd := scIPO.nd
    refine ⟨_, pss_one (ps_ret (pe_callB (cr_any rfl) (by rfl) an (by decide +kernel) (pa_cons (pe_lc (own := [("shape", 2)]) (g := gName 2) (tt := tYes) rfl nd (pi_list (pv 1)) (blkOk_by (N := ["picture", "shapes", "shape"]) (sc := defScope sIPO) (by decide +kernel)) (fun _ _ _ _ _ => pg_name (i := 2) nd rfl (Or.inl rfl)) (fun _ _ _ _ _ => pts_nil)
        (fun _ _ _ _ _ => pe_cmpR (op_eqDK (K := K) rfl hr.units) (pv 0) (pe_ix (r := rIxT K) ix_tup (pv 2) pe_int (fun _ _ => rfl)) (nomark _))) pa_nil))), ?_⟩
    refine ⟨.ref l, rfl, l, rfl, ⟨_, SqL.of hl⟩, fun D hD => lc_list (K := K) (a := l) (xs := xs) (fun j H2 => Same H H2 ∧ H2 D = some (.lst (((ss.take j).map fun s => decide (rs = s.rs)).map V.bl))) ⟨same_upd hD, upd_same⟩ (fun j H2 _ z => SqL.of (z.1 _ _ hl)) ?_ ?_⟩
    · rintro j x H2 hj ⟨sm, h2⟩
      have hj' : j < ss.length := by
        rw [← Ss.len]
        exact (List.getElem?_eq_some_iff.mp hj).1
      have es : ss[j]? = some ss[j] := List.getElem?_eq_getElem hj'
      generalize ss[j] = s2 at es
      obtain ⟨t2, p2, rfl, ht2, hp2⟩ := Ss.at_ j x s2 hj es
      have g2 := Gs s2 (List.mem_of_getElem? es)
      refine ⟨rfl, .ref a, rfl, .ref t2, rfl, t2, _, 1, .ref p2, rfl, rfl, SqT.of (sm _ _ ht2), rfl, .tuple (rs.map rD), .tuple (s2.rs.map rD), .tup (SqT.of (sm _ _ ha)) (dp_rows _), .tup (SqT.of (sm _ _ hp2)) (dp_rows _), shaped_rows R, shaped_rows g2.pic.rows, ?_⟩
      rw [eqv_pics]
      refine ⟨_, h2, ?_, same_over sm hD, ?_⟩
      · rw [List.length_map, List.length_map, List.length_take]
        exact small1000 (by omega)
      · rw [upd_same, take_snoc es, List.map_append, List.map_append]
        rfl
    · rintro H2 ⟨sm, h2⟩
      rw [Ss.len, List.take_length] at h2
      refine ⟨D, _, rfl, SqL.of h2, ?_⟩
      have e : ((ss.map fun s => decide (rs = s.rs)).any id) = decide (rs ∈ ss.map (·.rs)) := by
        apply Bool.eq_iff_iff.mpr
        rw [decide_eq_true_iff, List.any_eq_true]
        constructor
        · rintro ⟨b, hb, e⟩
          obtain ⟨s, hs, rfl⟩ := List.mem_map.mp hb
          have : rs = s.rs := of_decide_eq_true e
          exact List.mem_map.mpr ⟨s, hs, this.symm⟩
        · intro h
          obtain ⟨s, hs, e⟩ := List.mem_map.mp h
          exact ⟨_, List.mem_map.mpr ⟨s, hs, rfl⟩, decide_eq_true e.symm⟩
      rw [e]
      exact q H2 sm
end
end Dt
namespace L2X
open PySem PySem.Spec PyProof.Rows L2
theorem for_enumG {K : PySem.W.Frag} {A : Src} {xs : List V} {g : TG} {tb : TS} {D : Ends} {σ : L2.St} {H : Hp} (Pv : Nat → L2.St → Hp → Prop) (h0 : Pv 0 σ H) (hl : ∀ i σ H, i ≤ xs.length → Pv i σ H → A.has K H xs)
    (hs : ∀ i x σ H T, xs[i]? = some x → Pv i σ H → H T = none → g (.ref T) σ (upd H T (.tup [.int (i : Nat), x])) fun σ2 H2 => tb { D with nx := Pv (i + 1), ct := Pv (i + 1), bk := D.nx } σ2 H2) (hd : ∀ σ H, Pv xs.length σ H → D.nx σ H) :
    ∃ W : Nat → Nat → L2.St → Hp → Prop, (∃ m, W 0 m σ H) ∧ ∀ i m σ H, W i m σ H →
      ((IteG K A).stop i H ∧ D.nx σ H) ∨ ((IteG K A).go i H ∧ ∃ N : L2.St → Hp → Prop, (∀ σ' H', N σ' H' → ∃ m', m' < m ∧ W (i + 1) m' σ' H') ∧ ∀ x H', (IteG K A).yld i H x H' → g x σ H' fun σ2 H2 => tb { D with nx := N, ct := N, bk := D.nx } σ2 H2) := by
  refine ⟨fun i m σ H => m = xs.length - i ∧ i ≤ xs.length ∧ Pv i σ H, ⟨xs.length, by simp, Nat.zero_le _, h0⟩, ?_⟩
  rintro i m σ H ⟨rfl, hi, p⟩
  have qx := hl i σ H hi p
  by_cases hlt : i < xs.length
  · have ex : xs[i]? = some xs[i] := List.getElem?_eq_getElem hlt
    refine .inr ⟨⟨xs, _, qx, ex⟩, Pv (i + 1), fun σ' H' p' => ⟨xs.length - (i + 1), by omega, rfl, hlt, p'⟩, fun x H' y => ?_⟩
    obtain ⟨T, u, rfl, nT, rfl, z1⟩ := y
    exact hs i u σ H T (z1 xs qx) p nT
  · have e : i = xs.length := by omega
    subst e
    exact .inl ⟨⟨xs, qx, rfl⟩, hd σ H p⟩
theorem for_zipG {K : PySem.W.Frag} {A B : Src} {xs ys : List V} {g : TG} {tb : TS} {D : Ends} {σ : L2.St} {H : Hp} (hn : xs.length = ys.length) (Pv : Nat → L2.St → Hp → Prop) (h0 : Pv 0 σ H) (hl : ∀ i σ H, i ≤ xs.length → Pv i σ H → A.has K H xs ∧ B.has K H ys)
    (hs : ∀ i x y σ H T, xs[i]? = some x → ys[i]? = some y → Pv i σ H → H T = none → g (.ref T) σ (upd H T (.tup [x, y])) fun σ2 H2 => tb { D with nx := Pv (i + 1), ct := Pv (i + 1), bk := D.nx } σ2 H2) (hd : ∀ σ H, Pv xs.length σ H → D.nx σ H) :
    ∃ W : Nat → Nat → L2.St → Hp → Prop, (∃ m, W 0 m σ H) ∧ ∀ i m σ H, W i m σ H →
      ((ItzG K A B).stop i H ∧ D.nx σ H) ∨ ((ItzG K A B).go i H ∧ ∃ N : L2.St → Hp → Prop, (∀ σ' H', N σ' H' → ∃ m', m' < m ∧ W (i + 1) m' σ' H') ∧ ∀ x H', (ItzG K A B).yld i H x H' → g x σ H' fun σ2 H2 => tb { D with nx := N, ct := N, bk := D.nx } σ2 H2) := by
  refine ⟨fun i m σ H => m = xs.length - i ∧ i ≤ xs.length ∧ Pv i σ H, ⟨xs.length, by simp, Nat.zero_le _, h0⟩, ?_⟩
  rintro i m σ H ⟨rfl, hi, p⟩
  obtain ⟨qx, qy⟩ := hl i σ H hi p
  by_cases hlt : i < xs.length
  · have hlt2 : i < ys.length := by omega
    have ex : xs[i]? = some xs[i] := List.getElem?_eq_getElem hlt
    have ey : ys[i]? = some ys[i] := List.getElem?_eq_getElem hlt2
    refine .inr ⟨⟨xs, ys, _, _, qx, qy, ex, ey⟩, Pv (i + 1), fun σ' H' p' => ⟨xs.length - (i + 1), by omega, rfl, hlt, p'⟩, fun x H' y => ?_⟩
    obtain ⟨T, u, v, rfl, nT, rfl, z1, z2⟩ := y
    exact hs i u v σ H T (z1 xs qx) (z2 ys qy) p nT
  · have e : i = xs.length := by omega
    subst e
    exact .inl ⟨⟨xs, ys, qx, qy, .inl ⟨rfl, by omega⟩⟩, hd σ H p⟩
end L2X
namespace Dt
open PySem PySem.Spec PyProof.Rows L2 L2X
open SX (S)
abbrev sAI : Stmt := inClass cAl 0
abbrev sAH : Stmt := inClass cAl 1
abbrev sAS : Stmt := inClass cAl 2
abbrev sAW : Stmt := inClass cAl 4
abbrev sAN : Stmt := inClass cAl 7
theorem scAI : FnScope ["self", "high", "shapes", "at", "shape"] ["self", "high", "shapes"] (defScope sAI) := ⟨rfl, rfl, rfl, by decide +kernel, rfl, by decide +kernel, by decide +kernel⟩
theorem scAH : FnScope ["self"] ["self"] (defScope sAH) := ⟨rfl, rfl, rfl, by decide +kernel, rfl, by decide +kernel, by decide +kernel⟩
theorem scAS : FnScope ["self"] ["self"] (defScope sAS) := ⟨rfl, rfl, rfl, by decide +kernel, rfl, by decide +kernel, by decide +kernel⟩
theorem scAW : FnScope ["self", "number"] ["self", "number"] (defScope sAW) := ⟨rfl, rfl, rfl, by decide +kernel, rfl, by decide +kernel, by decide +kernel⟩
theorem scAN : FnScope ["self", "number"] ["self", "number"] (defScope sAN) := ⟨rfl, rfl, rfl, by decide +kernel, rfl, by decide +kernel, by decide +kernel⟩
def spAI (C : Addr) : Sp := fun vs H Q _ => ∃ (p dx l : Addr) (high : Nat) (xs : List V) (ss : List Sh), vs = [.ref p, .int high, .ref l] ∧ H p = some (.ins C dx []) ∧ 1 ≤ high ∧ high ≤ 9 ∧ H l = some (.lst xs) ∧ Shs H xs ss ∧ Goods high 8 ss ∧ 0 < ss.length ∧ ss.length ≤ 16 ∧
  ∀ H', AlpAt C H' p high ss → (∀ b o, H b = some o → b ≠ p → H' b = some o) → Q .non H'
def spAH (C : Addr) : Sp := fun vs H Q _ => ∃ (o : Addr) (high : Nat) (ss : List Sh), vs = [.ref o] ∧ AlpAt C H o high ss ∧ Q (.int high) H
def spAS (C : Addr) : Sp := fun vs H Q _ => ∃ (o : Addr) (high : Nat) (ss : List Sh), vs = [.ref o] ∧ AlpAt C H o high ss ∧ ∀ (l : Addr) (xs : List V) (H' : Hp), Same H H' → H l = none → H' l = some (.lst xs) → Shs H' xs ss → Q (.ref l) H'
def spAN (C : Addr) : Sp := fun vs H Q _ => ∃ (o : Addr) (high i : Nat) (ss : List Sh), vs = [.ref o, .int i] ∧ AlpAt C H o high ss ∧ i < ss.length ∧ ∀ H', Same H H' → Q .non H'
def spAW (C : Addr) : Sp := fun vs H Q _ => ∃ (o : Addr) (high i : Nat) (ss : List Sh) (s : Sh), vs = [.ref o, .int i] ∧ AlpAt C H o high ss ∧ ss[i]? = some s ∧ PicR high s.w s.rs ∧ ∀ H', Same H H' → Q (.int s.w) H'
section
variable {P : Program} {w : World} {K : PySem.W.Frag} {mg : Str → Option Value} {base : Heap} {C CA : Addr}
theorem ok_ai {f : Addr} {fd : FuncData} {k : Nat} (F : Fun K "__init__" "Alphabet.__init__" sAI f fd) (T : Tx mg) (TA : Tal K mg CA) (en : mg "enumerate" = none) (mh : ∃ t, mg "MOST_HIGH" = some (.int 9 t)) (ms : ∃ t, mg "MOST_SHAPES" = some (.int 16 t))
    (GB : Pm P w K mg base CX0 (k + 1) "is_between" ["thing", "least", "most"] (spBetw K)) (GL : Pm P w K mg base CX0 (k + 1) "is_list" ["thing"] (spIsList K)) (GS : Pm P w K mg base CX0 (k + 1) "_is_shape" ["thing", "high"] spIS) (GO : Pm P w K mg base CX0 (k + 1) "_is_picture_of" ["picture", "shapes"] spIPO) :
    FnOk P w K mg base CX0 (k + 2) f fd ["self", "high", "shapes"] (spAI CA) := by
  obtain ⟨fB, fdB, GB, mB, kB, bB⟩ := GB.ex
  obtain ⟨fL, fdL, GL, mL, kL, bL⟩ := GL.ex
  obtain ⟨fS, fdS, GS, mS, kS, bS⟩ := GS.ex
  obtain ⟨fO, fdO, GO, mO, kO, bO⟩ := GO.ex
  obtain ⟨th, hmh⟩ := mh
  obtain ⟨ts, hms⟩ := ms
  refine F.ok scAI (fun vs H Q E h => ?_) (fun cdv A outer s H vs Q E hr h => ?_)
  · obtain ⟨p, dx, l, high, xs, ss, rfl, _⟩ := h
    rfl
  · obtain ⟨p, dx, l, high, xs, ss, rfl, hp, h0, h1, hl, Ss, Gs, l0, l1, q⟩ := h
    have nd := scAI.nd
    refine ⟨_, pss_cons (ps_if (pt_not (pt_val (pe_call GB hr (by rfl) mB kB bB .nil pass0 (pa_cons (pv 1) (pa_cons pe_int (pa_cons (pe_glob (v := .int 9) (by rfl) hmh ⟨_, rfl⟩) pa_nil)))))) pss_never pss_nil)
      (pss_cons (ps_if (PW.pt (pw_or (pt_not (pt_val (pe_call GL hr (by rfl) mL kL bL .nil pass0 (pa_cons (pv 2) pa_nil)))) (pw_or1 (pt_cmpR op_eq (pe_callB call_len_seq (by rfl) T.len PySem.boot_len (pa_cons (pv 2) pa_nil)) pe_int (nomark _))))) pss_never pss_nil)
      (pss_cons (ps_for PassesOwn.never rfl (pi_enumG (by rfl) en (pa_cons (pv 2) pa_nil)) (pg_tup rfl (pgs_cons (pg_name (i := 3) nd rfl (Or.inl rfl)) (pgs_cons (pg_name (i := 4) nd rfl (Or.inl rfl)) pgs_nil)))
        (pss_one (ps_if (PW.pt (pw_or (pt_cmpR op_eq (pv 3) (pe_glob (v := .int 16) (by rfl) hms ⟨_, rfl⟩) (nomark _)) (pw_or (pt_not (pt_val (pe_call GS hr (by rfl) mS kS bS .nil pass0 (pa_cons (pv 4) (pa_cons (pv 1) pa_nil))))) (pw_or1 (pt_val (pe_call GO hr (by rfl) mO kO bO .nil pass0 (pa_cons (pe_ix (r := rIxT K) ix_tup (pv 4) pe_int (fun _ _ => rfl)) (pa_cons (pe_slice sl_list (pv 2) po_none (po_some (pv 3))) pa_nil)))))))) pss_never pss_nil)))
      (pss_cons (ps_fld (pv 0) (pv 1) rfl)
      (pss_one (ps_fld (pv 0) (pe_callTy call_tuple_of (by rfl) T.tuple (by decide +kernel) (pa_cons (pv 2) pa_nil)) rfl))))), ?_⟩
    refine ⟨.int high, rfl, .int high, 1, 9, rfl, kt_int _, _, rfl, ?_⟩
    have eb : betw (.int high) 1 9 = true := by
      rw [betw_int, decide_eq_true (by omega), decide_eq_true (by omega)]
      rfl
    rw [eb]
    refine iteF ⟨.ref l, rfl, .ref l, "list", rfl, .lst (SqL.of hl), rfl, fun H1 s1 => ⟨_, rfl, iteF ?_⟩⟩
    have lx : xs.length = ss.length := Ss.len
    refine ⟨.ref l, rfl, l, xs, rfl, .inl (SqL.of (s1 _ _ hl)), rfl, _, rfl, ?_⟩
    have e0 : decide (V.int (xs.length : Int) = V.int 0) = false := decide_eq_false fun e => by
      have := V.int.inj e
      omega
    rw [e0]
    refine iteF ⟨.ref l, rfl, .lst l, xs, rfl, SqL.of (s1 _ _ hl), for_enumG (K := K) (A := .lst l) (xs := xs) (fun i σ H2 => ∃ y3 y4, σ = [some (.ref p), some (.int high), some (.ref l), y3, y4] ∧ Same H H2) ⟨none, none, rfl, s1⟩ (fun i σ H2 _ z => by
      obtain ⟨_, _, _, sm⟩ := z
      exact SqL.of (sm _ _ hl)) ?_ ?_⟩
    · rintro i x σ H2 T' hx ⟨y3, y4, rfl, sm⟩ hT
      have hi : i < ss.length := by
        rw [← lx]
        exact (List.getElem?_eq_some_iff.mp hx).1
      have es : ss[i]? = some ss[i] := List.getElem?_eq_getElem hi
      have gi := Gs.all ss[i] (List.getElem_mem hi)
      have sT := same_upd (o := .tup [V.int (i : Nat), x]) hT
      have s2 := sm.trans sT
      have shi := (Ss.same s2).at_ i x _ hx es
      refine ⟨T', _, rfl, SqT.of upd_same, rfl, _, _, rfl, _, _, rfl, rfl, ?_⟩
      refine ⟨.int i, rfl, rfl, _, rfl, ?_⟩
      have e16 : decide (V.int (i : Int) = V.int 16) = false := decide_eq_false fun e => by
        have := V.int.inj e
        omega
      rw [e16]
      refine iteF ⟨x, rfl, .int high, rfl, x, high, ss[i], rfl, shi, gi, fun H3 s3 => ⟨_, rfl, iteF ?_⟩⟩
      obtain ⟨t, p2, rfl, ht, hp2⟩ := shi
      have s23 := s2.trans s3
      refine ⟨.ref t, rfl, t, _, 1, .ref p2, rfl, rfl, SqT.of (s3 _ _ ht), rfl, .ref l, rfl, .int i, rfl, i, rfl, l, xs, rfl, SqL.of (s23 _ _ hl), fun l2 hl2 => ?_⟩
      have s4 := same_upd (o := .lst (cutV xs none (some (i : Int)))) hl2
      have ecut : cutV xs none (some (i : Int)) = xs.take i := by
        unfold cutV
        rw [HT.sIx_nat]
        show (xs.drop 0).take (min i xs.length - 0) = _
        rw [List.drop_zero, Nat.sub_zero, Nat.min_eq_left (by omega)]
      have s234 := s23.trans s4
      have hsub : Shs (upd H3 l2 (.lst (cutV xs none (some (i : Int))))) (xs.take i) (ss.take i) := by
        have S4 := Ss.same s234
        refine ⟨by rw [List.length_take, List.length_take, S4.len], fun j y s' hy hs => ?_⟩
        rw [List.getElem?_take] at hy hs
        split at hy
        · rename_i hlt
          rw [if_pos hlt] at hs
          exact S4.at_ j y s' hy hs
        · cases hy
      refine ⟨p2, l2, high, ss[i].w, 8, ss[i].rs, xs.take i, ss.take i, rfl, s4 _ _ (s3 _ _ hp2), gi.pic.rows, by rw [upd_same, ecut], hsub, fun s' hs => Gs.all s' (List.mem_of_mem_take hs), ?_, fun H5 s5 => ⟨_, rfl, ?_⟩⟩
      · rw [List.length_take]
        omega
      have e5 : decide (ss[i].rs ∈ (ss.take i).map (·.rs)) = false := by
        refine decide_eq_false fun hm => ?_
        have hnd := Gs.nd
        rw [List.map_take] at hm
        obtain ⟨j, hj⟩ := List.mem_iff_getElem?.mp hm
        rw [List.getElem?_take] at hj
        split at hj
        · rename_i hlt
          have hi2 : (ss.map (·.rs))[i]? = some ss[i].rs := by rw [List.getElem?_map, es]; rfl
          obtain ⟨q1, q2⟩ := List.getElem?_eq_some_iff.mp hj
          obtain ⟨q3, q4⟩ := List.getElem?_eq_some_iff.mp hi2
          have := (List.getElem_inj hnd).mp (q2.trans q4.symm)
          omega
        · cases hj
      rw [e5]
      exact iteF ⟨_, _, rfl, s234.trans s5⟩
    · rintro σ H2 ⟨y3, y4, rfl, sm⟩
      have hp2 := sm _ _ hp
      refine ⟨.int high, rfl, .ref p, rfl, p, CA, dx, [], rfl, hp2, TA.cl, TA.nH, (by show 0 < 1000; decide), ?_⟩
      have npl : l ≠ p := ne_of hl hp (by intro z; cases z)
      have hl2 : (upd H2 p (.ins CA dx (putF "_high" (.int high) []))) l = some (.lst xs) := by
        rw [upd_ne npl]
        exact sm _ _ hl
      refine ⟨.ref l, rfl, l, xs, rfl, .inl ⟨SqL.of hl2, fun z hz => ⟨.ref p, rfl, p, CA, dx, putF "_high" (.int high) [], rfl, ?_, TA.cl, TA.nS, (by show 1 < 1000; decide), ?_⟩⟩⟩
      · rw [upd_ne (ne_of_none upd_same hz)]
        exact upd_same
      have nzp : z ≠ p := (ne_of_none upd_same hz).symm
      refine q _ ⟨dx, z, xs, upd_same, by rw [upd_ne nzp]; exact upd_same, Ss.len, fun i x s' hx hs => ?_⟩ fun b o e hb => ?_
      · obtain ⟨t, p2, rfl, ht, hp2'⟩ := Ss.at_ i x s' hx hs
        have put : ∀ (b : Addr) (ys : List V), H b = some (.tup ys) → (upd (upd (upd H2 p (.ins CA dx (putF "_high" (.int high) []))) z (.tup xs)) p (.ins CA dx (aF high z))) b = some (.tup ys) := fun b ys hb => by
          have n1 : b ≠ p := ne_of hb hp (by intro z; cases z)
          have n2 : (upd H2 p (.ins CA dx (putF "_high" (.int high) []))) b = some (.tup ys) := by
            rw [upd_ne n1]
            exact sm _ _ hb
          rw [upd_ne n1, upd_ne (ne_of_none n2 hz)]
          exact n2
        exact ⟨t, p2, rfl, put _ _ ht, put _ _ hp2'⟩
      · have n2 : (upd H2 p (.ins CA dx (putF "_high" (.int high) []))) b = some o := by
          rw [upd_ne hb]
          exact sm _ _ e
        rw [upd_ne hb, upd_ne (ne_of_none n2 hz)]
        exact n2
theorem ok_ah {f : Addr} {fd : FuncData} {k : Nat} (F : Fun K "high" "Alphabet.high" sAH f fd) (TA : Tal K mg CA) : FnOk P w K mg base CX0 (k + 1) f fd ["self"] (spAH CA) := by
  refine F.ok scAH (fun vs H Q E h => ?_) (fun cdv A outer s H vs Q E hr h => ?_)
  · obtain ⟨o, high, ss, rfl, _⟩ := h
    rfl
  · obtain ⟨o, high, ss, rfl, ⟨dx, t, xs, ho, ht, Ss⟩, q⟩ := h
    refine ⟨_, pss_one (ps_ret (pe_fld (pv 0) rfl)), ?_⟩
    exact ⟨.ref o, rfl, o, CA, dx, _, .int high, rfl, ho, TA.cl, TA.nH, aF_high _ _, q⟩
theorem ok_as {f : Addr} {fd : FuncData} {k : Nat} (F : Fun K "shapes" "Alphabet.shapes" sAS f fd) (T : Tx mg) (TA : Tal K mg CA) : FnOk P w K mg base CX0 (k + 1) f fd ["self"] (spAS CA) := by
  refine F.ok scAS (fun vs H Q E h => ?_) (fun cdv A outer s H vs Q E hr h => ?_)
  · obtain ⟨o, high, ss, rfl, _⟩ := h
    rfl
  · obtain ⟨o, high, ss, rfl, ⟨dx, t, xs, ho, ht, Ss⟩, q⟩ := h
    refine ⟨_, pss_one (ps_ret (pe_callTy call_list_of (by rfl) T.list (by decide +kernel) (pa_cons (pe_fld (pv 0) rfl) pa_nil))), ?_⟩
    refine ⟨.ref o, rfl, o, CA, dx, _, .ref t, rfl, ho, TA.cl, TA.nS, aF_shapes _ _, t, xs, rfl, .inr (SqT.of ht), fun l hl => ?_⟩
    have sl := same_upd (o := .lst xs) hl
    exact q l xs _ sl hl upd_same (Ss.same sl)
theorem ok_an {f : Addr} {fd : FuncData} {k : Nat} (F : Fun K "_want_number" "Alphabet._want_number" sAN f fd) (T : Tx mg) (TA : Tal K mg CA) (GB : Pm P w K mg base CX0 (k + 1) "is_between" ["thing", "least", "most"] (spBetw K)) : FnOk P w K mg base CX0 (k + 2) f fd ["self", "number"] (spAN CA) := by
  obtain ⟨fB, fdB, GB, mB, kB, bB⟩ := GB.ex
  refine F.ok scAN (fun vs H Q E h => ?_) (fun cdv A outer s H vs Q E hr h => ?_)
  · obtain ⟨o, high, i, ss, rfl, _⟩ := h
    rfl
  · obtain ⟨o, high, i, ss, rfl, ⟨dx, t, xs, ho, ht, Ss⟩, hi, q⟩ := h
    refine ⟨_, pss_one (ps_if (pt_not (pt_val (pe_call GB hr (by rfl) mB kB bB .nil pass0 (pa_cons (pv 1) (pa_cons pe_int (pa_cons (pe_op op_sub (pe_callB call_len_seq (by rfl) T.len PySem.boot_len (pa_cons (pe_fld (pv 0) rfl) pa_nil)) pe_int) pa_nil)))))) pss_never pss_nil), ?_⟩
    have lx := Ss.len
    refine ⟨.int i, rfl, .ref o, rfl, o, CA, dx, _, .ref t, rfl, ho, TA.cl, TA.nS, aF_shapes _ _, t, xs, rfl, .inr (SqT.of ht), _, 1, rfl, rfl, .int i, 0, _, rfl, kt_int _, _, rfl, ?_⟩
    have eb : betw (.int i) 0 ((xs.length : Int) - 1) = true := by
      rw [betw_int, decide_eq_true (by omega), decide_eq_true (by omega)]
      rfl
    rw [eb]
    exact iteF (q H (Same.refl H))
theorem ok_aw {f : Addr} {fd : FuncData} {k : Nat} (F : Fun K "wide" "Alphabet.wide" sAW f fd) (TA : Tal K mg CA) (GZ : GS P w K mg base C (k + 1)) (GM : Mm P w K mg base (k + 1) CA "_want_number" ["self", "number"] (spAN CA)) : FnOk P w K mg base CX0 (k + 2) f fd ["self", "number"] (spAW CA) := by
  obtain ⟨fM, fdM, GM, mM, bM⟩ := GM.ex
  obtain ⟨fZ, fdZ, GZ, mZ, kZ, bZ⟩ := GZ.ex
  refine F.ok scAW (fun vs H Q E h => ?_) (fun cdv A outer s H vs Q E hr h => ?_)
  · obtain ⟨o, high, i, ss, s, rfl, _⟩ := h
    rfl
  · obtain ⟨o, high, i, ss, sh, rfl, al, hi, pr, q⟩ := h
    refine ⟨_, pss_cons (ps_expr (pe_meth (pv 0) TA.cl mM GM hr bM .nil pass0 (pa_cons (pv 1) pa_nil)))
      (pss_one (ps_ret (pe_ix (r := rIxT K) ix_tup (pe_call GZ hr (by rfl) mZ kZ bZ .nil passX0 (pa_cons (pe_ix (r := rIxT K) ix_tup (pe_ix (r := rIxT K) ix_tup (pe_fld (pv 0) rfl) (pv 1) (fun _ _ => rfl)) pe_int (fun _ _ => rfl)) pa_nil)) pe_int (fun _ _ => rfl)))), ?_⟩
    obtain ⟨dx, t, xs, ho, ht, Ss⟩ := id al
    have hlt := (List.getElem?_eq_some_iff.mp hi).1
    have lx := Ss.len
    refine ⟨.ref o, rfl, o, dx, _, rfl, ho, aF_no _ _ (by decide +kernel) (by decide +kernel), .int i, rfl, o, high, i, ss, rfl, al, hlt, fun H1 s1 => ?_⟩
    have ex : xs[i]? = some (xs[i]'(by omega)) := List.getElem?_eq_getElem (by omega)
    obtain ⟨t2, p2, e2, ht2, hp2⟩ := Ss.at_ i _ sh ex hi
    rw [e2] at ex
    refine ⟨.ref o, rfl, o, CA, dx, _, .ref t, rfl, s1 _ _ ho, TA.cl, TA.nS, aF_shapes _ _, .int i, rfl, t, xs, i, .ref t2, rfl, rfl, SqT.of (s1 _ _ ht), atI_nat ex, t2, _, 1, .ref p2, rfl, rfl, SqT.of (s1 _ _ ht2), rfl, .ref p2, rfl, .inr ⟨p2, _, rfl, SqT.of (s1 _ _ hp2), kn_rows pr, picOk_pic pr, fun p3 H3 s3 n3 h3 => ?_⟩⟩
    have pz := picSize pr
    rw [pz.1, pz.2] at h3
    exact ⟨p3, _, 1, .int sh.w, rfl, rfl, SqT.of h3, rfl, q H3 (s1.trans s3)⟩
end
end Dt
namespace Dt
open PySem PySem.Spec PyProof.Rows L2 L2X
open SX (S)
abbrev sWL : Stmt := topS 28
abbrev sWW : Stmt := topS 29
abbrev sFit : Stmt := topS 27
theorem scWL : FnScope ["alphabet", "thing"] ["alphabet", "thing"] (defScope sWL) := ⟨rfl, rfl, rfl, by decide +kernel, rfl, by decide +kernel, by decide +kernel⟩
theorem scWW : FnScope ["alphabet", "line", "column", "number", "wide"] ["alphabet", "line", "column", "number"] (defScope sWW) := ⟨rfl, rfl, rfl, by decide +kernel, rfl, by decide +kernel, by decide +kernel⟩
theorem scFit : FnScope ["alphabet", "line", "column", "number", "part"] ["alphabet", "line", "column", "number"] (defScope sFit) := ⟨rfl, rfl, rfl, by decide +kernel, rfl, by decide +kernel, by decide +kernel⟩
def spWL (C : Addr) : Sp := fun vs H Q _ => ∃ (o a : Addr) (high wide : Nat) (ss : List Sh) (rs : List (List Nat)), vs = [.ref o, .ref a] ∧ AlpAt C H o high ss ∧ H a = some (.tup (rs.map rv)) ∧ PicR high wide rs ∧ wide ≤ 60 ∧ ∀ H', Same H H' → Q .non H'
def spWW (C : Addr) : Sp := fun vs H Q _ => ∃ (o a : Addr) (high wide c i : Nat) (ss : List Sh) (sh : Sh) (rs : List (List Nat)), vs = [.ref o, .ref a, .int c, .int i] ∧ AlpAt C H o high ss ∧ H a = some (.tup (rs.map rv)) ∧ PicR high wide rs ∧ wide ≤ 60 ∧ ss[i]? = some sh ∧ PicR high sh.w sh.rs ∧ c + sh.w ≤ wide ∧ ∀ H', Same H H' → Q .non H'
def spFit (C : Addr) : Sp := fun vs H Q _ => ∃ (o a : Addr) (high wide c i : Nat) (ss : List Sh) (sh : Sh) (rs : List (List Nat)), vs = [.ref o, .ref a, .int c, .int i] ∧ AlpAt C H o high ss ∧ H a = some (.tup (rs.map rv)) ∧ PicR high wide rs ∧ wide ≤ 60 ∧ ss[i]? = some sh ∧ PicR high sh.w sh.rs ∧ c + sh.w ≤ wide ∧ ∀ H', Same H H' → Q (.int (misP (cutR rs 0 c high sh.w) sh.rs)) H'
theorem cut_pic {high wide c w : Nat} {rs : List (List Nat)} (pr : PicR high wide rs) (h : c + w ≤ wide) (w0 : 1 ≤ w) : PicR high w (cutR rs 0 c high w) := by
  have w1 := pr.w1
  refine ⟨?_, fun l hl => ?_, pr.h0, pr.h1, w0, by omega⟩
  · unfold cutR
    rw [List.length_map, List.length_take, List.length_drop, pr.len]
    omega
  · obtain ⟨r, hr, rfl⟩ := List.mem_map.mp hl
    have rr := pr.row r (List.mem_of_mem_drop (List.mem_of_mem_take hr))
    refine ⟨?_, fun x hx => rr.sg x (List.mem_of_mem_drop (List.mem_of_mem_take hx))⟩
    rw [List.length_take, List.length_drop, rr.len]
    omega
section
variable {P : Program} {w : World} {K : PySem.W.Frag} {mg : Str → Option Value} {base : Heap} {C CA CP : Addr}
theorem ok_wl {f : Addr} {fd : FuncData} {k : Nat} (F : Fun K "want_line" "want_line" sWL f fd) (TA : Tal K mg CA) (ml : ∃ t, mg "MOST_LINE_COLUMNS" = some (.int 60 t)) (GI : Pm P w K mg base CX0 (k + 1) "is_picture" ["thing"] (spIsPic K)) (GZ : GS P w K mg base C (k + 1)) (GH : Mm P w K mg base (k + 1) CA "high" ["self"] (spAH CA)) : FnOk P w K mg base CX0 (k + 2) f fd ["alphabet", "thing"] (spWL CA) := by
  obtain ⟨fI, fdI, GI, mI, kI, bI⟩ := GI.ex
  obtain ⟨fZ, fdZ, GZ, mZ, kZ, bZ⟩ := GZ.ex
  obtain ⟨fH, fdH, GH, mH, bH⟩ := GH.ex
  obtain ⟨tl, hml⟩ := ml
  refine F.ok scWL (fun vs H Q E h => ?_) (fun cdv A outer s H vs Q E hr h => ?_)
  · obtain ⟨o, a, _, _, _, _, rfl, _⟩ := h
    rfl
  · obtain ⟨o, a, high, wide, ss, rs, rfl, al, ha, pr, w6, q⟩ := h
    refine ⟨_, pss_one (ps_if (PW.pt (pw_or (pt_not (pt_val (pe_call GI hr (by rfl) mI kI bI .nil pass0 (pa_cons (pv 1) pa_nil)))) (pw_or (pt_cmpR op_ne (pe_ix (r := rIxT K) ix_tup (pe_call GZ hr (by rfl) mZ kZ bZ .nil passX0 (pa_cons (pv 1) pa_nil)) pe_int (fun _ _ => rfl)) (pe_meth0 (pv 0) TA.cl mH GH hr bH .nil pass0) (nomark _))
        (pw_or1 (pt_cmpR op_gt (pe_ix (r := rIxT K) ix_tup (pe_call GZ hr (by rfl) mZ kZ bZ .nil passX0 (pa_cons (pv 1) pa_nil)) pe_int (fun _ _ => rfl)) (pe_glob (v := .int 60) (by rfl) hml ⟨_, rfl⟩) (nomark _)))))) pss_never pss_nil), ?_⟩
    have pz := picSize pr
    refine ⟨.ref a, rfl, .ref a, true, rfl, askPic pr ha, fun H1 s1 => ⟨_, rfl, iteF ?_⟩⟩
    refine ⟨.ref a, rfl, .ref a, rfl, .inr ⟨a, _, rfl, SqT.of (s1 _ _ ha), kn_rows pr, picOk_pic pr, fun p3 H3 s3 n3 h3 => ?_⟩⟩
    rw [pz.1, pz.2] at h3
    have s13 := s1.trans s3
    have al3 := al.same s13
    obtain ⟨dx, t, xs, ho, ht, Ss⟩ := id al3
    refine ⟨p3, _, 0, .int high, rfl, rfl, SqT.of h3, rfl, .ref o, rfl, o, dx, _, rfl, ho, aF_no _ _ (by decide +kernel) (by decide +kernel), o, high, ss, rfl, al3, rfl, _, rfl, ?_⟩
    have e1 : (!decide (V.int (high : Int) = V.int (high : Int))) = false := by
      rw [decide_eq_true rfl]
      rfl
    rw [e1]
    refine iteF ⟨.ref a, rfl, .ref a, rfl, .inr ⟨a, _, rfl, SqT.of (s13 _ _ ha), kn_rows pr, picOk_pic pr, fun p4 H4 s4 n4 h4 => ?_⟩⟩
    rw [pz.1, pz.2] at h4
    refine ⟨p4, _, 1, .int wide, rfl, rfl, SqT.of h4, rfl, wide, 60, rfl, rfl, _, rfl, ?_⟩
    exact iteE (decide_eq_false (by omega)) (q H4 (s13.trans s4))
theorem ok_ww {f : Addr} {fd : FuncData} {k : Nat} (F : Fun K "want_window" "want_window" sWW f fd) (TA : Tal K mg CA) (GL : Pm P w K mg base CX0 (k + 1) "want_line" ["alphabet", "thing"] (spWL CA)) (GW : Mm P w K mg base (k + 1) CA "wide" ["self", "number"] (spAW CA)) (GB : Pm P w K mg base CX0 (k + 1) "is_between" ["thing", "least", "most"] (spBetw K)) (GZ : GS P w K mg base C (k + 1)) : FnOk P w K mg base CX0 (k + 2) f fd ["alphabet", "line", "column", "number"] (spWW CA) := by
  obtain ⟨fL, fdL, GL, mL, kL, bL⟩ := GL.ex
  obtain ⟨fZ, fdZ, GZ, mZ, kZ, bZ⟩ := GZ.ex
  obtain ⟨fW, fdW, GW, mW, bW⟩ := GW.ex
  obtain ⟨fB, fdB, GB, mB, kB, bB⟩ := GB.ex
  refine F.ok scWW (fun vs H Q E h => ?_) (fun cdv A outer s H vs Q E hr h => ?_)
  · obtain ⟨o, a, _, _, _, _, _, _, _, rfl, _⟩ := h
    rfl
  · obtain ⟨o, a, high, wide, c, i, ss, sh, rs, rfl, al, ha, pr, w6, hi, ps, cw, q⟩ := h
    have nd := scWW.nd
    refine ⟨_, pss_cons (ps_expr (pe_call GL hr (by rfl) mL kL bL .nil pass0 (pa_cons (pv 0) (pa_cons (pv 1) pa_nil))))
      (pss_cons (ps_set (i := 4) nd rfl (.inl rfl) (pe_meth (pv 0) TA.cl mW GW hr bW .nil pass0 (pa_cons (pv 3) pa_nil)))
      (pss_one (ps_if (pt_not (pt_val (pe_call GB hr (by rfl) mB kB bB .nil pass0 (pa_cons (pv 2) (pa_cons pe_int (pa_cons (pe_op op_sub (pe_ix (r := rIxT K) ix_tup (pe_call GZ hr (by rfl) mZ kZ bZ .nil passX0 (pa_cons (pv 1) pa_nil)) pe_int (fun _ _ => rfl)) (pv 4)) pa_nil)))))) pss_never pss_nil))), ?_⟩
    have pz := picSize pr
    refine ⟨.ref o, rfl, .ref a, rfl, o, a, high, wide, ss, rs, rfl, al, ha, pr, w6, fun H1 s1 => ?_⟩
    have al1 := al.same s1
    obtain ⟨dx, t, xs, ho, ht, Ss⟩ := id al1
    refine ⟨.ref o, rfl, o, dx, _, rfl, ho, aF_no _ _ (by decide +kernel) (by decide +kernel), .int i, rfl, o, high, i, ss, sh, rfl, al1, hi, ps, fun H2 s2 => ?_⟩
    have s12 := s1.trans s2
    refine ⟨.int c, rfl, .ref a, rfl, .ref a, rfl, .inr ⟨a, _, rfl, SqT.of (s12 _ _ ha), kn_rows pr, picOk_pic pr, fun p3 H3 s3 n3 h3 => ?_⟩⟩
    rw [pz.1, pz.2] at h3
    refine ⟨p3, _, 1, .int wide, rfl, rfl, SqT.of h3, rfl, .int sh.w, rfl, wide, sh.w, rfl, rfl, .int c, 0, _, rfl, kt_int _, _, rfl, ?_⟩
    have eb : betw (.int c) 0 ((wide : Int) - (sh.w : Int)) = true := by
      rw [betw_int, decide_eq_true (by omega), decide_eq_true (by omega)]
      rfl
    rw [eb]
    exact iteF (q H3 (s12.trans s3))
theorem ok_fit {f : Addr} {fd : FuncData} {k : Nat} (F : Fun K "fit" "fit" sFit f fd) (TA : Tal K mg CA) (GV : Pm P w K mg base CX0 (k + 1) "want_window" ["alphabet", "line", "column", "number"] (spWW CA)) (GH : Mm P w K mg base (k + 1) CA "high" ["self"] (spAH CA)) (GW : Mm P w K mg base (k + 1) CA "wide" ["self", "number"] (spAW CA)) (GS : Mm P w K mg base (k + 1) CA "shapes" ["self"] (spAS CA))
    (GC : Pm P w K mg base (L2.CX P w) (k + 1) "cut_out" ["picture", "top", "left", "high", "wide"] (spCut K CP)) (GU : Pm P w K mg base (L2.CX P w) (k + 1) "unlike" ["one", "other"] (spUnlP CP)) : FnOk P w K mg base CX0 (k + 2) f fd ["alphabet", "line", "column", "number"] (spFit CA) := by
  obtain ⟨fV, fdV, GV, mV, kV, bV⟩ := GV.ex
  obtain ⟨fH, fdH, GH, mH, bH⟩ := GH.ex
  obtain ⟨fW, fdW, GW, mW, bW⟩ := GW.ex
  obtain ⟨fS, fdS, GS, mS, bS⟩ := GS.ex
  obtain ⟨fC, fdC, GC, mC, kC, bC⟩ := GC.ex
  obtain ⟨fU, fdU, GU, mU, kU, bU⟩ := GU.ex
  refine F.ok scFit (fun vs H Q E h => ?_) (fun cdv A outer s H vs Q E hr h => ?_)
  · obtain ⟨o, a, _, _, _, _, _, _, _, rfl, _⟩ := h
    rfl
  · obtain ⟨o, a, high, wide, c, i, ss, sh, rs, rfl, al, ha, pr, w6, hi, ps, cw, q⟩ := h
    have nd := scFit.nd
    refine ⟨_, pss_cons (ps_expr (pe_call GV hr (by rfl) mV kV bV .nil pass0 (pa_cons (pv 0) (pa_cons (pv 1) (pa_cons (pv 2) (pa_cons (pv 3) pa_nil))))))
      (pss_cons (ps_set (i := 4) nd rfl (.inl rfl) (pe_call GC hr (by rfl) mC kC bC .nil passX0 (pa_cons (pv 1) (pa_cons pe_int (pa_cons (pv 2) (pa_cons (pe_meth0 (pv 0) TA.cl mH GH hr bH .nil pass0) (pa_cons (pe_meth (pv 0) TA.cl mW GW hr bW .nil pass0 (pa_cons (pv 3) pa_nil)) pa_nil)))))))
      (pss_one (ps_ret (pe_call GU hr (by rfl) mU kU bU .nil passX0 (pa_cons (pv 4) (pa_cons (pe_ix (r := rIxT K) ix_tup (pe_ix ix_list (pe_meth0 (pv 0) TA.cl mS GS hr bS .nil pass0) (pv 3) (fun _ _ => rfl)) pe_int (fun _ _ => rfl)) pa_nil)))))), ?_⟩
    refine ⟨.ref o, rfl, .ref a, rfl, .int c, rfl, .int i, rfl, o, a, high, wide, c, i, ss, sh, rs, rfl, al, ha, pr, w6, hi, ps, cw, fun H1 s1 => ?_⟩
    have al1 := al.same s1
    obtain ⟨dx, t, xs, ho, ht, Ss⟩ := id al1
    refine ⟨.ref a, rfl, .int c, rfl, .ref o, rfl, o, dx, _, rfl, ho, aF_no _ _ (by decide +kernel) (by decide +kernel), o, high, ss, rfl, al1, ?_⟩
    refine ⟨.ref o, rfl, o, dx, _, rfl, ho, aF_no _ _ (by decide +kernel) (by decide +kernel), .int i, rfl, o, high, i, ss, sh, rfl, al1, hi, ps, fun H2 s2 => ?_⟩
    have s12 := s1.trans s2
    have b0 : strB (.int 0) (.int high) (high : Int) = true := by
      have := pr.h0
      show (decide (1 ≤ (high : Int)) && betw (.int 0) 0 ((high : Int) - (high : Int))) = true
      rw [betw_int, decide_eq_true (by omega), decide_eq_true (by omega), decide_eq_true (by omega)]
      rfl
    have b1 : strB (.int c) (.int sh.w) (wide : Int) = true := by
      have := ps.w0
      show (decide (1 ≤ (sh.w : Int)) && betw (.int c) 0 ((wide : Int) - (sh.w : Int))) = true
      rw [betw_int, decide_eq_true (by omega), decide_eq_true (by omega), decide_eq_true (by omega)]
      rfl
    refine ⟨a, high, wide, rs, .int 0, .int c, .int high, .int sh.w, rfl, s12 _ _ ha, pr, kt_int _, kt_int _, kt_int _, kt_int _, fun _ t' l' h' w' e1 e2 e3 e4 _ _ _ _ p H3 s3 np hp => ?_, fun e => by
      rw [b0, b1] at e
      cases e⟩
    have t0 : t' = 0 := by
      have := V.int.inj e1
      omega
    have l0 : l' = c := by
      have := V.int.inj e2
      omega
    have h0 : h' = high := by
      have := V.int.inj e3
      omega
    have w0 : w' = sh.w := by
      have := V.int.inj e4
      omega
    rw [t0, l0, h0, w0] at hp
    have s13 := s12.trans s3
    have al3 := al.same s13
    obtain ⟨dx3, t3, xs3, ho3, ht3, Ss3⟩ := id al3
    refine ⟨.ref p, rfl, .ref o, rfl, o, dx3, _, rfl, ho3, aF_no _ _ (by decide +kernel) (by decide +kernel), o, high, ss, rfl, al3, fun l ys H4 s4 nl hl Sl => ?_⟩
    have hlt := (List.getElem?_eq_some_iff.mp hi).1
    have ly := Sl.len
    have ey : ys[i]? = some (ys[i]'(by omega)) := List.getElem?_eq_getElem (by omega)
    obtain ⟨t2, p2, e2', ht2, hp2⟩ := Sl.at_ i _ sh ey hi
    rw [e2'] at ey
    refine ⟨.int i, rfl, l, ys, i, .ref t2, rfl, rfl, SqL.of hl, atI_nat ey, t2, _, 1, .ref p2, rfl, rfl, SqT.of ht2, rfl, p, p2, high, sh.w, high, sh.w, cutR rs 0 c high sh.w, sh.rs, rfl, s4 _ _ hp, hp2, cut_pic pr cw ps.w0, ps, fun _ H5 s5 => q H5 ((s13.trans s4).trans s5), fun e => absurd ⟨rfl, rfl⟩ e⟩
end
end Dt
namespace Dt
open PySem PySem.Spec PyProof.Rows L2 L2X
open SX (S)
theorem cutV_to (xs : List V) (n : Nat) : cutV xs none (some (n : Int)) = xs.take n := by
  unfold cutV
  rw [HT.sIx_nat]
  show (xs.drop 0).take (min n xs.length - 0) = _
  rw [List.drop_zero, Nat.sub_zero]
  by_cases h : n ≤ xs.length
  · rw [Nat.min_eq_left h]
  · rw [Nat.min_eq_right (by omega), List.take_length, List.take_of_length_le (by omega)]
theorem or_by {K : PySem.W.Frag} {ta tb : TE} {σ : L2.St} {H : Hp} {Q : VK} {a : Addr} {ns : List Int} (hta : ∀ R : VK, R (.ref a) H → ta σ H R) (hS : SqL K H a (ns.map V.int)) (hl : ns.length ≤ 63)
    (hb : ∀ R : VK, (∀ l, H l = none → R (.ref l) (upd H l (.lst [V.int 5]))) → tb σ H R) (q : ∀ (H1 : Hp) (l0 : Addr) (ms : List Int), Same H H1 → SqL K H1 l0 (ms.map V.int) → ms.length ≤ 63 → Q (.ref l0) H1) : tOrT K ta tb σ H Q := by
  refine hta _ ⟨!(ns.map V.int).isEmpty, .inl ⟨_, hS, rfl⟩, ?_⟩
  cases ns with
  | nil => exact iteF (hb _ fun l hl => q _ l [5] (same_upd hl) (SqL.of upd_same) (by decide))
  | cons z zs => exact iteT (q H a (z :: zs) (Same.refl H) hS hl)
/-! ### the sums -/
def mis1 (j w : Nat) (q : List Nat × List Nat) : Int := (misZ ((q.1.drop j).take w) q.2 : Int)
theorem misP_cut {high w j : Nat} {rs ss : List (List Nat)} (h : rs.length = high) : misP (cutR rs 0 j high w) ss = ((rs.zip ss).map (mis1 j w)).sum := by
  unfold misP cutR
  rw [List.drop_zero, List.take_of_length_le (by omega), List.zip_map_left, List.map_map]
  rfl
theorem zip_take_left {α β : Type} : ∀ (l : List α) (m : List β), (l.take m.length).zip m = l.zip m
  | [], m => by simp
  | _ :: _, [] => by simp
  | x :: l, y :: m => by simp [zip_take_left l m]
theorem misZ_drop {l m : List Nat} {j w : Nat} (hw : m.length = w) : misZ ((l.drop j).take w) m = (((l.drop j).zip m).filter fun p => decide (p.1 ≠ p.2)).length := by
  unfold misZ
  rw [← hw, zip_take_left]
abbrev sLaw : Stmt := topS 46
abbrev nLaw : List Str := ["script", "k", "cell", "draw", "high", "most", "shapes", "line", "made", "number", "sign", "picture", "at", "due", "one", "other", "told", "j", "spot"]
theorem scLaw : FnScope nLaw ["script"] (defScope sLaw) := ⟨rfl, rfl, rfl, by decide +kernel, rfl, by decide +kernel, by decide +kernel⟩
def spLaw (K : PySem.W.Frag) : Sp := fun vs H Q _ => ∃ (a : Addr) (ns : List Int), vs = [.ref a] ∧ SqL K H a (ns.map V.int) ∧ ns.length ≤ 63 ∧ ∀ H', Q (.bl true) H'
section
variable {P : Program} {w : World} {K : PySem.W.Frag} {mg : Str → Option Value} {base : Heap} {CA : Addr}
theorem ok_law {f fI : Addr} {fd fdI : FuncData} {k : Nat} (F : Fun K "law" "law" sLaw f fd) (T : Tx mg) (TA : Tal K mg CA) (en : mg "enumerate" = none) (hz : mg "zip" = none) (is : mg "isinstance" = none) (bo : mg "bool" = none) (M : Mk K CA fI)
    (GI : FnOk P w K mg base CX0 k fI fdI ["self", "high", "shapes"] (spAI CA)) (bI : Binds K fdI ["self", "high", "shapes"] [])
    (GB : Pm P w K mg base CX0 (k + 1) "_law_begun" ["cell", "k"] spBg) (GN : Pm P w K mg base CX0 (k + 1) "_law_next" ["draw", "below"] spNx) (GS : Pm P w K mg base CX0 (k + 1) "_law_shapes" ["draw", "high", "most", "wide"] spShp)
    (GL : Pm P w K mg base CX0 (k + 1) "_law_line" ["draw", "high", "wide", "shapes"] spLn) (GF : Pm P w K mg base CX0 (k + 1) "fit" ["alphabet", "line", "column", "number"] (spFit CA)) : FnOk P w K mg base CX0 (k + 2) f fd ["script"] (spLaw K) := by
  obtain ⟨fB, fdB, GB, mB, kB, bB⟩ := GB.ex
  obtain ⟨fN, fdN, GN, mN, kN, bN⟩ := GN.ex
  obtain ⟨fS, fdS, GS, mS, kS, bS⟩ := GS.ex
  obtain ⟨fL, fdL, GL, mL, kL, bL⟩ := GL.ex
  obtain ⟨fF, fdF, GF, mF, kF, bF⟩ := GF.ex
  refine F.ok scLaw (fun vs H Q E h => ?_) (fun cdv A outer s H vs Q E hr h => ?_)
  · obtain ⟨a, ns, rfl, _⟩ := h
    rfl
  · obtain ⟨a, ns, rfl, hS, hlen, q⟩ := h
    have nd := scLaw.nd
    refine ⟨_, pss_cons (ps_for PassesOwn.never rfl (pi_enumG (by rfl) en (pa_cons (pe_slice sl_list (pe_orT (pv 0) (pe_one (pe_lst (pa_cons pe_int pa_nil)))) po_none (po_some pe_int)) pa_nil)) (pg_tup rfl (pgs_cons (pg_name (i := 1) nd rfl (Or.inl rfl)) (pgs_cons (pg_name (i := 2) nd rfl (Or.inl rfl)) pgs_nil)))
        (C8.pss_cut (ps_set (i := 3) nd rfl (.inl rfl) (pe_call GB hr (by rfl) mB kB bB .nil pass0 (pa_cons (pv 2) (pa_cons (pv 1) pa_nil))))
        (C8.pss_cut (ps_par (i := 4) (j := 5) (by rfl) nd rfl rfl (by decide) rfl rfl (pa_cons (pe_op op_add pe_int (pe_call GN hr (by rfl) mN kN bN .nil pass0 (pa_cons (pv 3) (pa_cons pe_int pa_nil)))) (pa_cons (pe_op op_add pe_int (pe_call GN hr (by rfl) mN kN bN .nil pass0 (pa_cons (pv 3) (pa_cons pe_int pa_nil)))) pa_nil)) (by rfl))
        (C8.pss_cut (ps_set (i := 6) nd rfl (.inl rfl) (pe_call GS hr (by rfl) mS kS bS .nil pass0 (pa_cons (pv 3) (pa_cons (pv 4) (pa_cons pe_int (pa_cons (pv 5) pa_nil))))))
        (C8.pss_cut (ps_set (i := 7) nd rfl (.inl rfl) (pe_call GL hr (by rfl) mL kL bL .nil pass0 (pa_cons (pv 3) (pa_cons (pv 4) (pa_cons (pe_op op_add pe_int (pe_call GN hr (by rfl) mN kN bN .nil pass0 (pa_cons (pv 3) (pa_cons pe_int pa_nil)))) (pa_cons (pv 6) pa_nil))))))
        (C8.pss_cut (ps_set (i := 8) nd rfl (.inl rfl) (pe_make M GI hr (by rfl) TA.mC bI .nil pass0 (pa_cons (pv 4) (pa_cons (pv 6) pa_nil))))
        (pss_one (ps_for PassesOwn.never rfl (pi_enumG (by rfl) en (pa_cons (pv 6) pa_nil)) (pg_tup rfl (pgs_cons (pg_name (i := 9) nd rfl (Or.inl rfl)) (pgs_cons (pg_tup rfl (pgs_cons (pg_name (i := 10) nd rfl (Or.inl rfl)) (pgs_cons (pg_name (i := 11) nd rfl (Or.inl rfl)) pgs_nil))) pgs_nil)))
          (pss_one (ps_for PassesOwn.never rfl (pi_range1 rfl T.range (pa_cons (pe_op op_add (pe_op op_sub (pe_callB call_len_str (by rfl) T.len PySem.boot_len (pa_cons (pe_ix (r := rIxT K) ix_tup (pv 7) pe_int (fun _ _ => rfl)) pa_nil)) (pe_callB call_len_str (by rfl) T.len PySem.boot_len (pa_cons (pe_ix (r := rIxT K) ix_tup (pv 11) pe_int (fun _ _ => rfl)) pa_nil))) pe_int) pa_nil)) (pg_name (i := 12) nd rfl (.inr rfl))
            (pss_cons (ps_set (i := 13) nd rfl (.inl rfl) pe_int)
            (pss_cons (ps_for PassesOwn.never rfl (pi_zipG (by rfl) hz (pa_cons (pv 7) (pa_cons (pv 11) pa_nil))) (pg_tup rfl (pgs_cons (pg_name (i := 14) nd rfl (Or.inr rfl)) (pgs_cons (pg_name (i := 15) nd rfl (Or.inl rfl)) pgs_nil)))
              (pss_one (ps_set (i := 13) nd rfl (.inl rfl) (pe_op op_add (pv 13) (pe_callB call_len_seq (by rfl) T.len PySem.boot_len (pa_cons (pe_lc (own := [("j", 17), ("spot", 18)]) (g := gTup K 2 (gCons (gName 17) (gCons (gName 18) gNil))) rfl nd (pi_enumG (by rfl) en (pa_cons (pv 15) pa_nil)) (blkOk_by (N := nLaw) (sc := defScope sLaw) (by decide +kernel))
                (fun _ _ _ _ _ => pg_tup rfl (pgs_cons (pg_name (i := 17) nd rfl (Or.inl rfl)) (pgs_cons (pg_name (i := 18) nd rfl (Or.inl rfl)) pgs_nil)))
                (fun _ _ _ _ _ => pts_one (pt_cmpR op_ne (pe_ix ix_str (pv 14) (pe_op op_add (pv 12) (pv 17)) (fun _ _ => rfl)) (pv 18) (nomark _))) (fun _ _ _ _ _ => pv 17)) pa_nil))))))
            (pss_cons (ps_set (i := 16) nd rfl (.inl rfl) (pe_call GF hr (by rfl) mF kF bF .nil pass0 (pa_cons (pv 8) (pa_cons (pv 7) (pa_cons (pv 12) (pa_cons (pv 9) pa_nil))))))
            (pss_one (ps_if (PW.pt (pw_or (pt_cmpR op_ne (pv 16) (pv 13) (nomark _)) (pw_or (pt_val (pe_callB call_isi (by rfl) is (by decide +kernel) (pa_cons (pv 16) (pa_cons (pe_bltn (v := .ty "bool") (u := .type "bool") (by rfl) bo (by decide +kernel) rfl) pa_nil)))) (pw_or1 (pt_cmpR op_ne (pe_call GF hr (by rfl) mF kF bF .nil pass0 (pa_cons (pv 8) (pa_cons (pv 7) (pa_cons (pv 12) (pa_cons (pv 9) pa_nil))))) (pv 13) (nomark _)))))) (pss_one (ps_ret pe_bl)) pss_nil)))))))))))))))
      (pss_one (ps_ret pe_bl)), ?_⟩
    refine or_by (a := a) (ns := ns) (fun R r => ⟨.ref a, rfl, r⟩) hS hlen (fun R r => ⟨by show 1 ≤ sizeLine; decide, fun l hl => r l hl⟩) fun H1 l0 ms s1 hq hm => ?_
    refine ⟨8, rfl, l0, _, rfl, hq, fun lc hlc => ?_⟩
    have scut : cutV (ms.map V.int) none (some 8) = (ms.take 8).map V.int := by
      rw [List.map_take]
      exact cutV_to _ 8
    have hlc1 : (upd H1 lc (.lst (cutV (ms.map V.int) none (some 8)))) lc = some (.lst ((ms.take 8).map V.int)) := by rw [upd_same, scut]
    generalize upd H1 lc (.lst (cutV (ms.map V.int) none (some 8))) = HB at hlc1 ⊢
    refine ⟨.lst lc, (ms.take 8).map V.int, rfl, SqL.of hlc1, for_enumG (K := K) (A := .lst lc) (xs := (ms.take 8).map V.int) (fun i σ H2 => ∃ y1 y2 y3 y4 y5 y6 y7 y8 y9 y10 y11 y12 y13 y14 y15 y16, σ = [some (.ref a), y1, y2, y3, y4, y5, y6, y7, y8, y9, y10, y11, y12, y13, y14, y15, y16, none, none] ∧ Same HB H2) ⟨none, none, none, none, none, none, none, none, none, none, none, none, none, none, none, none, rfl, Same.refl _⟩ (fun i σ H2 _ z => by
      obtain ⟨_, _, _, _, _, _, _, _, _, _, _, _, _, _, _, _, _, sm⟩ := z
      exact SqL.of (sm _ _ hlc1)) ?_ ?_⟩
    · rintro kk x σ H2 T' hx ⟨y1, y2, y3, y4, y5, y6, y7, y8, y9, y10, y11, y12, y13, y14, y15, y16, rfl, sm⟩ hT
      have hkk : kk < 8 := by
        have := (List.getElem?_eq_some_iff.mp hx).1
        rw [List.length_map, List.length_take] at this
        omega
      obtain ⟨cell, _, rfl⟩ := map_at2 hx
      have sB := sm.trans (same_upd (o := .tup [V.int (kk : Nat), V.int cell]) hT)
      refine ⟨T', _, rfl, SqT.of upd_same, rfl, _, _, rfl, _, _, rfl, rfl, ?_⟩
      generalize upd H2 T' (.tup [V.int (kk : Nat), V.int cell]) = H3 at sB
      -- the drawing list
      refine ⟨fun σ' H' => ∃ d, σ' = [some (.ref a), some (.int (kk : Nat)), some (.int cell), some (.ref d), y4, y5, y6, y7, y8, y9, y10, y11, y12, y13, y14, y15, y16, none, none] ∧ HB d = none ∧ Du H' d 0 ∧ Same HB H', ?_, ?_⟩
      · exact ⟨.int cell, rfl, .int kk, rfl, cell, kk, rfl, by omega, by omega, fun d H4 nd4 s4 D4 => ⟨d, rfl, sB.free nd4, D4, sB.trans s4⟩⟩
      rintro _ H4 ⟨d, rfl, ndB, D4, s4⟩
      have doB : ∀ {H5 : Hp}, Do d H4 H5 → Same HB H5 := fun dn b o e => dn b o (s4 b o e) (ne_of_none e ndB)
      -- how high, how wide
      refine ⟨fun σ' H' => ∃ high most : Nat, σ' = [some (.ref a), some (.int (kk : Nat)), some (.int cell), some (.ref d), some (.int high), some (.int most), y6, y7, y8, y9, y10, y11, y12, y13, y14, y15, y16, none, none] ∧ 1 ≤ high ∧ high ≤ 9 ∧ 1 ≤ most ∧ most ≤ 8 ∧ Du H' d 2 ∧ Do d H4 H', ?_, ?_⟩
      · refine ⟨.ref d, rfl, d, 9, 0, rfl, D4, (by show 0 ≤ 1000000000000; decide), by decide, by decide, fun m H5 m0 m1 D5 dn5 => ⟨1, m, rfl, rfl, .ref d, rfl, d, 8, 1, rfl, D5, (by show 1 ≤ 1000000000000; decide), by decide, by decide, fun m' H6 m0' m1' D6 dn6 => ⟨1, m', rfl, rfl, ?_⟩⟩⟩
        obtain ⟨m, rfl⟩ := Int.eq_ofNat_of_zero_le m0
        obtain ⟨m', rfl⟩ := Int.eq_ofNat_of_zero_le m0'
        have e1 : (1 + (m : Int)) = ((1 + m : Nat) : Int) := by omega
        have e2 : (1 + (m' : Int)) = ((1 + m' : Nat) : Int) := by omega
        refine ⟨_, _, rfl, 1 + m, 1 + m', ?_, by omega, by omega, by omega, by omega, D6, dn5.trans dn6⟩
        rw [← e1, ← e2]
        rfl
      rintro _ H5 ⟨high, most, rfl, h0, h1, m0, m1, D5, dn5⟩
      -- shapes
      refine ⟨fun σ' H' => ∃ (l : Addr) (xs : List V) (ss : List Sh), σ' = [some (.ref a), some (.int (kk : Nat)), some (.int cell), some (.ref d), some (.int high), some (.int most), some (.ref l), y7, y8, y9, y10, y11, y12, y13, y14, y15, y16, none, none] ∧ l ≠ d ∧ H' l = some (.lst xs) ∧ Shs H' xs ss ∧ Goods high most ss ∧ 0 < ss.length ∧ ss.length ≤ 6 ∧ Du H' d 500002 ∧ Do d H4 H', ?_, ?_⟩
      · refine ⟨.ref d, rfl, .int high, rfl, .int most, rfl, d, high, 6, most, 2, rfl, D5, (by show 500002 ≤ 1000000000000; decide), h0, by omega, by decide, by decide, m0, by omega, fun l xs ss H6 nl hl Ss Gs l0' l1' D6 dn6 => ?_⟩
        exact ⟨l, xs, ss, rfl, D5.new nl, hl, Ss, Gs, l0', l1', D6, dn5.trans dn6⟩
      rintro _ H6 ⟨l, xs, ss, rfl, nld, hl, Ss, Gs, ss0, ss1, D6, dn6⟩
      -- the line
      refine ⟨fun σ' H' => ∃ (pl : Addr) (wide : Nat) (rs : List (List Nat)), σ' = [some (.ref a), some (.int (kk : Nat)), some (.int cell), some (.ref d), some (.int high), some (.int most), some (.ref l), some (.ref pl), y8, y9, y10, y11, y12, y13, y14, y15, y16, none, none] ∧ PicR high wide rs ∧ wide ≤ 20 ∧ H' pl = some (.tup (rs.map rv)) ∧ H' l = some (.lst xs) ∧ Shs H' xs ss ∧ Same HB H', ?_, ?_⟩
      · refine ⟨.ref d, rfl, .int high, rfl, .ref d, rfl, d, 20, _, rfl, D6, (by show 500002 ≤ 1000000000000; decide), by decide, by decide, fun m H7 mm0 mm1 D7 dn7 => ⟨1, m, rfl, rfl, .ref l, rfl, ?_⟩⟩
        obtain ⟨m, rfl⟩ := Int.eq_ofNat_of_zero_le mm0
        have e1 : (1 + (m : Int)) = ((1 + m : Nat) : Int) := by omega
        refine ⟨d, l, high, 1 + m, most, _, xs, ss, congrArg (fun z => [V.ref d, V.int high, V.int z, V.ref l]) e1, D7, (by show 600003 ≤ 1000000000000; decide), h0, by omega, by omega, by omega, by omega, nld, dn7 _ _ hl nld, Ss.dn D6 dn7, Gs, ss0, by omega, fun pl rs H8 pr npl hpl D8 dn8 => ?_⟩
        exact ⟨pl, 1 + m, rs, rfl, pr, by omega, hpl, dn8 _ _ (dn7 _ _ hl nld) nld, (Ss.dn D6 dn7).dn D7 dn8, doB (dn6.trans (dn7.trans dn8))⟩
      rintro _ H7 ⟨pl, wide, rs, rfl, pr, wd, hpl, hl7, Ss7, s7⟩
      -- the alphabet
      refine ⟨fun σ' H' => ∃ o, σ' = [some (.ref a), some (.int (kk : Nat)), some (.int cell), some (.ref d), some (.int high), some (.int most), some (.ref l), some (.ref pl), some (.ref o), y9, y10, y11, y12, y13, y14, y15, y16, none, none] ∧ AlpAt CA H' o high ss ∧ H' pl = some (.tup (rs.map rv)) ∧ H' l = some (.lst xs) ∧ Shs H' xs ss ∧ Same HB H', ?_, ?_⟩
      · refine ⟨.int high, rfl, .ref l, rfl, fun o dx no ndx nxo => ?_⟩
        have s8 : Same H7 (upd (upd H7 dx (.own o)) o (.ins CA dx [])) := fun b u e => by
          rw [upd_ne (ne_of_none e no), upd_ne (ne_of_none e ndx)]
          exact e
        refine ⟨o, dx, l, high, xs, ss, rfl, upd_same, h0, by omega, s8 _ _ hl7, Ss7.same s8, ⟨fun s hs => ?_, Gs.nd⟩, ss0, by omega, fun H8 al kp => ⟨rfl, ?_⟩⟩
        · have g := Gs.all s hs
          exact ⟨g.pic, Nat.le_trans g.w8 m1, g.s0, g.s1, g.dot⟩
        have s78 : Same H7 H8 := fun b u e => kp b u (s8 b u e) (ne_of_none e no)
        exact ⟨o, rfl, al, s78 _ _ hpl, s78 _ _ hl7, Ss7.same s78, s7.trans s78⟩
      rintro _ H8 ⟨o, rfl, al, hpl8, hl8, Ss8, s8⟩
      -- all windows
      refine ⟨.ref l, rfl, .lst l, xs, rfl, SqL.of hl8, for_enumG (K := K) (A := .lst l) (xs := xs) (fun i σ H9 => ∃ y9 y10 y11 y12 y13 y14 y15 y16, σ = [some (.ref a), some (.int (kk : Nat)), some (.int cell), some (.ref d), some (.int high), some (.int most), some (.ref l), some (.ref pl), some (.ref o), y9, y10, y11, y12, y13, y14, y15, y16, none, none] ∧ Same H8 H9) ⟨y9, y10, y11, y12, y13, y14, y15, y16, rfl, Same.refl _⟩ (fun i σ H9 _ z => by
        obtain ⟨_, _, _, _, _, _, _, _, _, sm9⟩ := z
        exact SqL.of (sm9 _ _ hl8)) ?_ ?_⟩
      · rintro i x σ H9 T' hx ⟨y9, y10, y11, y12, y13, y14, y15, y16, rfl, sm9⟩ hT
        have hi : i < ss.length := by
          rw [← Ss8.len]
          exact (List.getElem?_eq_some_iff.mp hx).1
        have es : ss[i]? = some ss[i] := List.getElem?_eq_getElem hi
        have g := Gs.all ss[i] (List.getElem_mem hi)
        generalize ss[i] = sh at es g
        have s9 := sm9.trans (same_upd (o := .tup [V.int (i : Nat), x]) hT)
        obtain ⟨t2, p2, rfl, ht2, hp2⟩ := (Ss8.same s9).at_ i x sh hx es
        refine ⟨T', _, rfl, SqT.of upd_same, rfl, _, _, rfl, _, _, rfl, t2, _, rfl, SqT.of ht2, rfl, _, _, rfl, _, _, rfl, rfl, rfl, ?_⟩
        generalize upd H9 T' (.tup [V.int (i : Nat), V.ref t2]) = H10 at s9 hp2 ht2
        have hpl10 := s9 _ _ hpl8
        have hh : 0 < rs.length := by rw [pr.len]; omega
        have hh2 : 0 < sh.rs.length := by rw [g.pic.len]; omega
        have e0 : rs[0]? = some rs[0] := List.getElem?_eq_getElem hh
        have e2 : sh.rs[0]? = some sh.rs[0] := List.getElem?_eq_getElem hh2
        have w1 := (pr.row _ (List.getElem_mem hh)).len
        have w2 := (g.pic.row _ (List.getElem_mem hh2)).len
        generalize rs[0] = r0 at e0 w1
        generalize sh.rs[0] = q0 at e2 w2
        have gw8 := g.w8
        have gw0 := g.pic.w0
        refine ⟨.ref pl, rfl, pl, _, 0, rv r0, rfl, rfl, SqT.of hpl10, atI_nat (j := 0) (by rw [List.getElem?_map, e0]; rfl), S r0, rfl, (by rw [SX.S_len]; exact Nat.le_of_lt (small1000 (by omega))), .ref p2, rfl, p2, _, 0, rv q0, rfl, rfl, SqT.of hp2, atI_nat (j := 0) (by rw [List.getElem?_map, e2]; rfl), S q0, rfl, (by rw [SX.S_len]; exact Nat.le_of_lt (small1000 (by omega))), _, _, rfl, rfl, _, 1, rfl, rfl, ?_⟩
        rw [SX.S_len, SX.S_len, w1, w2]
        refine ⟨_, rfl, by omega, by omega, for_range (lo := 0) (n := _) (fun j σ H11 => ∃ y12 y13 y14 y15 y16, σ = [some (.ref a), some (.int (kk : Nat)), some (.int cell), some (.ref d), some (.int high), some (.int most), some (.ref l), some (.ref pl), some (.ref o), some (.int (i : Nat)), some (ch sh.sg), some (.ref p2), y12, y13, y14, y15, y16, none, none] ∧ Same H10 H11) ⟨y12, y13, y14, y15, y16, rfl, Same.refl _⟩ ?_ ?_⟩
        · rintro j σ H11 hj ⟨y12, y13, y14, y15, y16, rfl, sm11⟩
          have hjw : j + sh.w ≤ wide := by omega
          rw [Int.zero_add]
          have hpl11 := sm11 _ _ hpl10
          have hp11 := sm11 _ _ hp2
          have lz : rs.length = sh.rs.length := by rw [pr.len, g.pic.len]
          refine ⟨.ref pl, rfl, .ref p2, rfl, .tup pl, .tup p2, rs.map rv, sh.rs.map rv, rfl, SqT.of hpl11, SqT.of hp11, for_zipG (K := K) (A := .tup pl) (B := .tup p2) (xs := rs.map rv) (ys := sh.rs.map rv) (by rw [List.length_map, List.length_map, lz]) (fun q σ H12 => ∃ y14 y15, σ = [some (.ref a), some (.int (kk : Nat)), some (.int cell), some (.ref d), some (.int high), some (.int most), some (.ref l), some (.ref pl), some (.ref o), some (.int (i : Nat)), some (ch sh.sg), some (.ref p2), some (.int j), some (.int (((rs.zip sh.rs).take q).map (mis1 j sh.w)).sum), y14, y15, y16, none, none] ∧ Same H11 H12) ⟨y14, y15, rfl, Same.refl _⟩ (fun q σ H12 _ z => by
            obtain ⟨_, _, _, sm12⟩ := z
            exact ⟨SqT.of (sm12 _ _ hpl11), SqT.of (sm12 _ _ hp11)⟩) ?_ ?_⟩
          · rintro qq x y σ H12 T2 hx hy ⟨y14, y15, rfl, sm12⟩ hT2
            obtain ⟨l1, hl1, rfl⟩ := map_at2 hx
            obtain ⟨m1', hm1, rfl⟩ := map_at2 hy
            have hz' : (rs.zip sh.rs)[qq]? = some (l1, m1') := List.getElem?_zip_eq_some.mpr ⟨hl1, hm1⟩
            have sX := sm12.trans (same_upd (o := .tup [rv l1, rv m1']) hT2)
            have q1 := (pr.row l1 (List.mem_of_getElem? hl1)).len
            have q2 := (g.pic.row m1' (List.mem_of_getElem? hm1)).len
            refine ⟨T2, _, rfl, SqT.of upd_same, rfl, _, _, rfl, _, _, rfl, rfl, ?_⟩
            generalize upd H12 T2 (.tup [rv l1, rv m1']) = HX at sX
            refine ⟨.int _, rfl, rv m1', rfl, .txt (S m1'), chars (S m1'), rfl, rfl, fun D hD => lc_enumG (K := K) (A := .txt (S m1')) (xs := chars (S m1')) (fun u H13 => Same HX H13 ∧ ∃ zs, H13 D = some (.lst zs) ∧ zs.length = ((((l1.drop j).zip m1').take u).filter fun p => decide (p.1 ≠ p.2)).length) ⟨same_upd hD, [], upd_same, rfl⟩ (fun _ _ _ _ => rfl) ?_ ?_⟩
            · rintro u x H13 T3 hx3 ⟨sm13, zs, hzs, lzs⟩ hT3
              rw [chars_S] at hx3
              obtain ⟨c2, hc2, rfl⟩ := map_at2 hx3
              have hu : u < sh.w := by
                rw [← q2]
                exact (List.getElem?_eq_some_iff.mp hc2).1
              have hju : j + u < l1.length := by omega
              have ec1 : l1[j + u]? = some l1[j + u] := List.getElem?_eq_getElem hju
              generalize l1[j + u] = c1 at ec1
              have hz3 : ((l1.drop j).zip m1')[u]? = some (c1, c2) := List.getElem?_zip_eq_some.mpr ⟨by rw [List.getElem?_drop]; exact ec1, hc2⟩
              have sT3 := same_upd (o := .tup [V.int (u : Nat), V.str ⟨#[c2]⟩]) hT3
              have hat : atI (S l1).cps.toList ((j : Int) + (u : Int)) = some c1 := by
                have e : (j : Int) + (u : Int) = ((j + u : Nat) : Int) := by omega
                have e1 : (S l1).cps.toList = l1 := by simp [S]
                rw [e, e1]
                exact atI_nat ec1
              refine ⟨T3, _, rfl, SqT.of upd_same, rfl, _, _, rfl, _, _, rfl, rfl, rfl, rv l1, rfl, .int j, rfl, .int u, rfl, j, u, rfl, rfl, S l1, _, c1, rfl, rfl, (by rw [SX.S_len]; exact Nat.le_of_lt (small1000 (by omega))), hat, .str ⟨#[c2]⟩, rfl, rfl, _, rfl, ?_⟩
              rw [ch_dec]
              cases e : decide (c1 = c2) with
              | true =>
                refine iteF ⟨sm13.trans sT3, zs, sT3 _ _ hzs, ?_⟩
                have e' := of_decide_eq_true e
                rw [take_snoc hz3, List.filter_append, List.length_append, lzs]
                simp [e']
              | false =>
                have lz3 : zs.length ≤ u := by
                  rw [lzs]
                  refine Nat.le_trans (List.length_filter_le _ _) ?_
                  rw [List.length_take]
                  omega
                refine iteT ⟨.int u, rfl, zs, sT3 _ _ hzs, small1000 (by omega), same_over (sm13.trans sT3) hD, _, upd_same, ?_⟩
                have e' := of_decide_eq_false e
                rw [take_snoc hz3, List.filter_append, List.length_append, List.length_append, lzs]
                simp [e']
            · rintro H13 ⟨sm13, zs, hzs, lzs⟩
              have et : ((l1.drop j).zip m1').take (chars (S m1')).length = (l1.drop j).zip m1' := by
                apply List.take_of_length_le
                rw [chars_S, List.length_map, List.length_zip]
                omega
              rw [et, ← misZ_drop q2] at lzs
              refine ⟨D, zs, rfl, .inl (SqL.of hzs), _, _, rfl, rfl, ?_⟩
              have e : (((rs.zip sh.rs).take qq).map (mis1 j sh.w)).sum + (zs.length : Int) = (((rs.zip sh.rs).take (qq + 1)).map (mis1 j sh.w)).sum := by
                rw [take_snoc hz', List.map_append, List.sum_append, lzs]
                simp [mis1]
              refine ⟨some (rv l1), some (rv m1'), ?_, sX.trans sm13⟩
              rw [← e]
              rfl
          · rintro σ H12 ⟨y14, y15, rfl, sm12⟩
            have et : (rs.zip sh.rs).take (rs.map rv).length = rs.zip sh.rs := by
              apply List.take_of_length_le
              rw [List.length_map, List.length_zip]
              omega
            have ed : misP (cutR rs 0 j high sh.w) sh.rs = (((rs.zip sh.rs).take (rs.map rv).length).map (mis1 j sh.w)).sum := by
              rw [et]
              exact misP_cut pr.len
            generalize (((rs.zip sh.rs).take (rs.map rv).length).map (mis1 j sh.w)).sum = due at ed ⊢
            have s12 := sm11.trans sm12
            have no : ∀ z : Int, (!decide (V.int z = V.int z)) = false := fun z => by
              rw [decide_eq_true rfl]
              rfl
            refine ⟨.ref o, rfl, .ref pl, rfl, .int j, rfl, .int i, rfl, o, pl, high, wide, j, i, ss, sh, rs, rfl, al.same (s9.trans s12), s12 _ _ hpl10, pr, by omega, es, g.pic, hjw, fun H13 s13 => ?_⟩
            rw [ed]
            have s123 := s12.trans s13
            refine ⟨.int due, rfl, .int due, rfl, rfl, _, rfl, iteE (no due) ?_⟩
            refine ⟨.int due, rfl, .int due, .ty "bool", .type "int", .type "bool", false, rfl, .ty "bool", .base (.int _), kit_ty (by decide +kernel), _, rfl, iteF ?_⟩
            refine ⟨.ref o, rfl, .ref pl, rfl, .int j, rfl, .int i, rfl, o, pl, high, wide, j, i, ss, sh, rs, rfl, al.same (s9.trans s123), s123 _ _ hpl10, pr, by omega, es, g.pic, hjw, fun H14 s14 => ?_⟩
            rw [ed]
            refine ⟨.int due, rfl, rfl, _, rfl, iteE (no due) ?_⟩
            exact ⟨_, _, _, _, _, rfl, s123.trans s14⟩
        · rintro σ H11 ⟨y12, y13, y14, y15, y16, rfl, sm11⟩
          exact ⟨_, _, _, _, _, _, _, _, rfl, s9.trans sm11⟩
      · rintro σ H9 ⟨y9, y10, y11, y12, y13, y14, y15, y16, rfl, sm9⟩
        exact ⟨_, _, _, _, _, _, _, _, _, _, _, _, _, _, _, _, rfl, s8.trans sm9⟩
    · rintro σ H2 ⟨y1, y2, y3, y4, y5, y6, y7, y8, y9, y10, y11, y12, y13, y14, y15, y16, rfl, sm⟩
      exact q _
end
end Dt
namespace Dt
open PySem PySem.Spec PyProof.Rows L2 L2X
abbrev BndT (nm : Str) (st : Stmt) (ps : List Str) : Prop := ∀ (kV doc pm : Value) (an : Option Addr) (cdv ct : Value) (us : List Value), us.length = ps.length → bindArgs (PySem.W.fnOf nm nm (defArgs st) (defBody st) (defScope st) .none kV doc pm an cdv ct) ⟨us, []⟩ = pure (ps.zip us)
abbrev BndM (nm qn : Str) (st : Stmt) (ps : List Str) : Prop := ∀ (kV doc pm : Value) (an : Option Addr) (cdv ct : Value) (us : List Value), us.length = ps.length → bindArgs (PySem.W.fnOf nm qn (defArgs st) (defBody st) (defScope st) .none kV doc pm an cdv ct) ⟨us, []⟩ = pure (ps.zip us)
theorem df_mk {K : PySem.W.Frag} {h : Heap} {mg : Str → Option Value} {nm : Str} {st : Stmt} {ps : List Str} {f : Addr} {oc : Value} {od an : Option Addr} {osl : Array (Option Value)} {kV doc pm cdv ct : Value} (X : K.In h) (G : h.Ns mainGlobals mg)
    (a : PySem.W.nsIn K mainGlobals nm = some (some (.ref f))) (l : K.lookup f = some ⟨oc, od, .func (PySem.W.fnOf nm nm (defArgs st) (defBody st) (defScope st) .none kV doc pm an cdv ct), osl⟩) (c : PySem.W.codeIn K cdv nm = true) (k : PySem.W.keepIn K (.ref f) = true) (hb : BndT nm st ps) : Df K mg nm st ps :=
  have F := fun_mk (st := st) l c k
  ⟨f, _, F, PySem.W.mg_of X G a, F.binds (ps := ps) hb⟩
/-- a method as it stands behind the top -/
structure Dm (K : PySem.W.Frag) (C : Addr) (nm qn : Str) (st : Stmt) (ps : List Str) : Prop where
  ex : ∃ f fd, Fun K nm qn st f fd ∧ Meth K C nm f ∧ Binds K fd ps []
theorem dm_mk {K : PySem.W.Frag} {C : Addr} {nm qn : Str} {st : Stmt} {ps : List Str} {f : Addr} {oc : Value} {od an : Option Addr} {osl : Array (Option Value)} {kV doc pm cdv ct : Value}
    (a : PySem.W.findIn K (.ref C) nm = some (some (.ref f))) (i : PySem.W.isFn K (.ref f) = true) (l : K.lookup f = some ⟨oc, od, .func (PySem.W.fnOf nm qn (defArgs st) (defBody st) (defScope st) .none kV doc pm an cdv ct), osl⟩) (c : PySem.W.codeIn K cdv qn = true) (k : PySem.W.keepIn K (.ref f) = true) (hb : BndM nm qn st ps) : Dm K C nm qn st ps :=
  have F := fun_mk (st := st) l c k
  ⟨f, _, F, ⟨a, i, k⟩, F.binds (ps := ps) hb⟩
theorem Mm.of {P : Program} {w : World} {K : PySem.W.Frag} {mg : Str → Option Value} {base : Heap} {k : Nat} {C : Addr} {nm qn : Str} {st : Stmt} {ps : List Str} {sp : Sp} (d : Dm K C nm qn st ps) (h : ∀ f fd, Fun K nm qn st f fd → FnOk P w K mg base CX0 k f fd ps sp) : Mm P w K mg base k C nm ps sp := by
  obtain ⟨f, fd, F, m, b⟩ := d.ex
  exact ⟨f, fd, h f fd F, m, b⟩
theorem gli_mk {K : PySem.W.Frag} {h : Heap} {mg : Str → Option Value} {nm : Str} {i : Int} {t : Tok} (X : K.In h) (G : h.Ns mainGlobals mg) (a : PySem.W.nsIn K mainGlobals nm = some (some (.int i t))) : ∃ t, mg nm = some (.int i t) := ⟨t, PySem.W.mg_of X G a⟩
theorem noa {K : PySem.W.Frag} {C : Addr} {f : Str} (h : PySem.W.findIn K (.ref C) f = some none) : NoAttr K C f := h
theorem exN_mk {K : PySem.W.Frag} {h : Heap} {mg : Str → Option Value} {nm : Str} {C : Addr} (X : K.In h) (G : h.Ns mainGlobals mg) (a : PySem.W.nsIn K mainGlobals nm = some (some (.ref C))) (x : PySem.W.excIn K C [.type "ValueError", .type "Exception", .type "BaseException", .type "object"] "ValueError.__new__" = true) (k : PySem.W.keepIn K (.ref C) = true) (b : PySem.W.subIn K (.ref C) (.type "BaseException") = some true) (t : PySem.W.typeIn K (.ref C) = some (.type "type")) : ExN K mg nm C :=
  ⟨PySem.W.mg_of X G a, x, k, b, t⟩
theorem bnd0 : BndT "_law_begun" sBg ["cell", "k"] := fun _ _ _ _ _ _ us hl => match us, hl with | [_, _], _ => rfl
theorem bnd1 : BndT "_law_next" sNx ["draw", "below"] := fun _ _ _ _ _ _ us hl => match us, hl with | [_, _], _ => rfl
theorem bnd2 : BndT "_law_pick" sPk ["draw", "some"] := fun _ _ _ _ _ _ us hl => match us, hl with | [_, _], _ => rfl
theorem bnd3 : BndT "_law_picture" sPc ["draw", "high", "wide", "dense"] := fun _ _ _ _ _ _ us hl => match us, hl with | [_, _, _, _], _ => rfl
theorem bnd4 : BndT "_law_near" sNr ["draw", "picture"] := fun _ _ _ _ _ _ us hl => match us, hl with | [_, _], _ => rfl
theorem bnd5 : BndT "_law_shapes" sShp ["draw", "high", "most", "wide"] := fun _ _ _ _ _ _ us hl => match us, hl with | [_, _, _, _], _ => rfl
theorem bnd6 : BndT "_law_line" sLn ["draw", "high", "wide", "shapes"] := fun _ _ _ _ _ _ us hl => match us, hl with | [_, _, _, _], _ => rfl
theorem bnd7 : BndT "is_text" sIsText ["thing"] := fun _ _ _ _ _ _ us hl => match us, hl with | [_], _ => rfl
theorem bnd8 : BndT "_is_row" sIsRow ["thing"] := fun _ _ _ _ _ _ us hl => match us, hl with | [_], _ => rfl
theorem bnd9 : BndT "is_picture" sIsPic ["thing"] := fun _ _ _ _ _ _ us hl => match us, hl with | [_], _ => rfl
theorem bnd10 : BndT "want_picture" sWant ["thing"] := fun _ _ _ _ _ _ us hl => match us, hl with | [_], _ => rfl
theorem bnd11 : BndT "size" sSize ["picture"] := fun _ _ _ _ _ _ us hl => match us, hl with | [_], _ => rfl
theorem bnd12 : BndT "is_number" sIsNum ["thing"] := fun _ _ _ _ _ _ us hl => match us, hl with | [_], _ => rfl
theorem bnd13 : BndT "is_between" sBetw ["thing", "least", "most"] := fun _ _ _ _ _ _ us hl => match us, hl with | [_, _, _], _ => rfl
theorem bnd14 : BndT "is_list" sIsList ["thing"] := fun _ _ _ _ _ _ us hl => match us, hl with | [_], _ => rfl
theorem bnd15 : BndT "is_tuple" sIsTup ["thing", "many"] := fun _ _ _ _ _ _ us hl => match us, hl with | [_, _], _ => rfl
theorem bnd16 : BndT "dots" sDots ["picture"] := fun _ _ _ _ _ _ us hl => match us, hl with | [_], _ => rfl
theorem bnd17 : BndT "_is_stretch" sStr ["start", "many", "whole"] := fun _ _ _ _ _ _ us hl => match us, hl with | [_, _, _], _ => rfl
theorem bnd18 : BndT "cut_out" sCut ["picture", "top", "left", "high", "wide"] := fun _ _ _ _ _ _ us hl => match us, hl with | [_, _, _, _, _], _ => rfl
theorem bnd19 : BndT "_unlike_signs" sUS ["row", "other"] := fun _ _ _ _ _ _ us hl => match us, hl with | [_, _], _ => rfl
theorem bnd20 : BndT "unlike" sUnlP ["one", "other"] := fun _ _ _ _ _ _ us hl => match us, hl with | [_, _], _ => rfl
theorem bnd21 : BndT "is_sign" sSg ["thing"] := fun _ _ _ _ _ _ us hl => match us, hl with | [_], _ => rfl
theorem bnd22 : BndT "_is_shape" sIS ["thing", "high"] := fun _ _ _ _ _ _ us hl => match us, hl with | [_, _], _ => rfl
theorem bnd23 : BndT "_is_picture_of" sIPO ["picture", "shapes"] := fun _ _ _ _ _ _ us hl => match us, hl with | [_, _], _ => rfl
theorem bnd24 : BndT "want_line" sWL ["alphabet", "thing"] := fun _ _ _ _ _ _ us hl => match us, hl with | [_, _], _ => rfl
theorem bnd25 : BndT "want_window" sWW ["alphabet", "line", "column", "number"] := fun _ _ _ _ _ _ us hl => match us, hl with | [_, _, _, _], _ => rfl
theorem bnd26 : BndT "fit" sFit ["alphabet", "line", "column", "number"] := fun _ _ _ _ _ _ us hl => match us, hl with | [_, _, _, _], _ => rfl
theorem bnm0 : BndM "__init__" "Alphabet.__init__" sAI ["self", "high", "shapes"] := fun _ _ _ _ _ _ us hl => match us, hl with | [_, _, _], _ => rfl
theorem bnm1 : BndM "high" "Alphabet.high" sAH ["self"] := fun _ _ _ _ _ _ us hl => match us, hl with | [_], _ => rfl
theorem bnm2 : BndM "shapes" "Alphabet.shapes" sAS ["self"] := fun _ _ _ _ _ _ us hl => match us, hl with | [_], _ => rfl
theorem bnm3 : BndM "wide" "Alphabet.wide" sAW ["self", "number"] := fun _ _ _ _ _ _ us hl => match us, hl with | [_, _], _ => rfl
theorem bnm4 : BndM "_want_number" "Alphabet._want_number" sAN ["self", "number"] := fun _ _ _ _ _ _ us hl => match us, hl with | [_, _], _ => rfl
structure AllD (K : PySem.W.Frag) (mg : Str → Option Value) (CA : Addr) : Prop where
  d0 : Df K mg "_law_begun" sBg ["cell", "k"]
  d1 : Df K mg "_law_next" sNx ["draw", "below"]
  d2 : Df K mg "_law_pick" sPk ["draw", "some"]
  d3 : Df K mg "_law_picture" sPc ["draw", "high", "wide", "dense"]
  d4 : Df K mg "_law_near" sNr ["draw", "picture"]
  d5 : Df K mg "_law_shapes" sShp ["draw", "high", "most", "wide"]
  d6 : Df K mg "_law_line" sLn ["draw", "high", "wide", "shapes"]
  d7 : Df K mg "is_text" sIsText ["thing"]
  d8 : Df K mg "_is_row" sIsRow ["thing"]
  d9 : Df K mg "is_picture" sIsPic ["thing"]
  d10 : Df K mg "want_picture" sWant ["thing"]
  d11 : Df K mg "size" sSize ["picture"]
  d12 : Df K mg "is_number" sIsNum ["thing"]
  d13 : Df K mg "is_between" sBetw ["thing", "least", "most"]
  d14 : Df K mg "is_list" sIsList ["thing"]
  d15 : Df K mg "is_tuple" sIsTup ["thing", "many"]
  d16 : Df K mg "dots" sDots ["picture"]
  d17 : Df K mg "_is_stretch" sStr ["start", "many", "whole"]
  d18 : Df K mg "cut_out" sCut ["picture", "top", "left", "high", "wide"]
  d19 : Df K mg "_unlike_signs" sUS ["row", "other"]
  d20 : Df K mg "unlike" sUnlP ["one", "other"]
  d21 : Df K mg "is_sign" sSg ["thing"]
  d22 : Df K mg "_is_shape" sIS ["thing", "high"]
  d23 : Df K mg "_is_picture_of" sIPO ["picture", "shapes"]
  d24 : Df K mg "want_line" sWL ["alphabet", "thing"]
  d25 : Df K mg "want_window" sWW ["alphabet", "line", "column", "number"]
  d26 : Df K mg "fit" sFit ["alphabet", "line", "column", "number"]
  m0 : Dm K CA "__init__" "Alphabet.__init__" sAI ["self", "high", "shapes"]
  m1 : Dm K CA "high" "Alphabet.high" sAH ["self"]
  m2 : Dm K CA "shapes" "Alphabet.shapes" sAS ["self"]
  m3 : Dm K CA "wide" "Alphabet.wide" sAW ["self", "number"]
  m4 : Dm K CA "_want_number" "Alphabet._want_number" sAN ["self", "number"]
structure AllN (K : PySem.W.Frag) (mg : Str → Option Value) (C CP CA : Addr) : Prop where
  z0 : mg "len" = none
  z1 : mg "range" = none
  z2 : mg "tuple" = none
  z3 : mg "list" = none
  z4 : mg "int" = none
  z5 : mg "type" = none
  z6 : mg "str" = none
  z7 : mg "all" = none
  z8 : mg "any" = none
  z9 : mg "sum" = none
  z10 : mg "zip" = none
  z11 : mg "enumerate" = none
  z12 : mg "isinstance" = none
  z13 : mg "bool" = none
  z14 : mg "max" = none
  i0 : ∃ t, mg "MOST_ROWS" = some (.int 60 t)
  i1 : ∃ t, mg "MOST_COLUMNS" = some (.int 120 t)
  i2 : ∃ t, mg "MOST_LINE_COLUMNS" = some (.int 60 t)
  i3 : ∃ t, mg "MOST_HIGH" = some (.int 9 t)
  i4 : ∃ t, mg "MOST_WIDE" = some (.int 8 t)
  i5 : ∃ t, mg "MOST_SHAPES" = some (.int 16 t)
  n : Tn K mg C
  np : ExN K mg "NoPlace" CP
  ta : Tal K mg CA
  mks : PySem.W.makesIn K CA = true
  kp : PySem.W.keepIn K (.ref CA) = true
section
variable {P : Program} {w : World} {K : PySem.W.Frag} {mg : Str → Option Value} {base : Heap} {C CP CA : Addr}
theorem facts (D : AllD K mg CA) (N : AllN K mg C CP CA) {f : Addr} {fd : FuncData} (F : Fun K "law" "law" sLaw f fd) : FnOk P w K mg base CX0 9 f fd ["script"] (spLaw K) := by
  have X : Tx mg := ⟨N.z0, N.z1, N.z2, N.z3, N.z4⟩
  have T : Tp mg := ⟨N.z5, N.z6, N.z7, N.i0, N.i1⟩
  have Z : Tz mg := ⟨N.z9, N.z10⟩
  have nxt : ∀ k, Pm P w K mg base CX0 (k + 1) "_law_next" ["draw", "below"] spNx := fun k => .of D.d1 fun f fd F => ok_nx F
  have pck : ∀ k, Pm P w K mg base CX0 (k + 2) "_law_pick" ["draw", "some"] (spPk K) := fun k => .of D.d2 fun f fd F => by
    obtain ⟨_, _, G, m, kp, b⟩ := (nxt k).ex
    exact ok_pk F X _ _ G m kp b
  have pct : ∀ k, Pm P w K mg base CX0 (k + 2) "_law_picture" ["draw", "high", "wide", "dense"] spPc := fun k => .of D.d3 fun f fd F => ok_pc F X (nxt k)
  have nea : ∀ k, Pm P w K mg base CX0 (k + 2) "_law_near" ["draw", "picture"] spNr := fun k => .of D.d4 fun f fd F => ok_nr F X (nxt k)
  have isT : ∀ k, Pm P w K mg base CX0 (k + 1) "is_text" ["thing"] (spIsText K) := fun k => .of D.d7 fun f fd F => ok_isText F T
  have isR : ∀ k, Pm P w K mg base CX0 (k + 2) "_is_row" ["thing"] (spIsRow K) := fun k => .of D.d8 fun f fd F => by
    obtain ⟨_, _, G, m, kp, b⟩ := (isT k).ex
    exact ok_isRow F T X G m kp b
  have isP : ∀ k, Pm P w K mg base CX0 (k + 3) "is_picture" ["thing"] (spIsPic K) := fun k => .of D.d9 fun f fd F => by
    obtain ⟨_, _, G, m, kp, b⟩ := (isR k).ex
    exact ok_isPic (k := k + 1) F T X G m kp b
  have wnt : ∀ k, GW P w K mg base C (k + 4) := fun k => by
    obtain ⟨fW, fdW, FW, mW, bW⟩ := (D.d10).ex
    obtain ⟨_, _, G, m, kp, b⟩ := (isP k).ex
    exact ⟨fW, fdW, ok_want (k := k + 2) FW N.n G m kp b, mW, FW.kp, bW⟩
  have siz : ∀ k, GS P w K mg base C (k + 5) := fun k => by
    obtain ⟨f, fd, F, m, b⟩ := (D.d11).ex
    exact ⟨f, fd, ok_size (k := k + 3) F X (wnt k), m, F.kp, b⟩
  have isN : ∀ k, Pm P w K mg base CX0 (k + 1) "is_number" ["thing"] (spIsNum K) := fun k => .of D.d12 fun f fd F => ok_isNum F T X
  have btw : ∀ k, Pm P w K mg base CX0 (k + 2) "is_between" ["thing", "least", "most"] (spBetw K) := fun k => .of D.d13 fun f fd F => by
    obtain ⟨_, _, G, m, kp, b⟩ := (isN k).ex
    exact ok_betw F G m kp b
  have isL : ∀ k, Pm P w K mg base CX0 (k + 1) "is_list" ["thing"] (spIsList K) := fun k => .of D.d14 fun f fd F => ok_isList F T X
  have isU : ∀ k, Pm P w K mg base CX0 (k + 1) "is_tuple" ["thing", "many"] (spIsTup K) := fun k => .of D.d15 fun f fd F => ok_isTup F T X
  have dts : ∀ k, Pm P w K mg base (L2.CX P w) (k + 5) "dots" ["picture"] (spDots K) := fun k => .of D.d16 fun f fd F => ok_dots (k := k + 3) F N.z11 (wnt k)
  have str : ∀ k, Pm P w K mg base CX0 (k + 3) "_is_stretch" ["start", "many", "whole"] (spStr K) := fun k => .of D.d17 fun f fd F => ok_str (k := k) F (isN k) (btw k)
  have cut : ∀ k, Pm P w K mg base (L2.CX P w) (k + 6) "cut_out" ["picture", "top", "left", "high", "wide"] (spCut K CP) := fun k => .of D.d18 fun f fd F => ok_cut (k := k + 2) F X N.np (siz k) (str (k + 2))
  have uns : ∀ k, Pm P w K mg base CX0 (k + 1) "_unlike_signs" ["row", "other"] spUS := fun k => .of D.d19 fun f fd F => ok_US F Z
  have unl : ∀ k, Pm P w K mg base (L2.CX P w) (k + 6) "unlike" ["one", "other"] (spUnlP CP) := fun k => .of D.d20 fun f fd F => by
    obtain ⟨_, _, G, m, kp, b⟩ := (uns (k + 4)).ex
    exact ok_unlP (fW := f) (fS := f) (fdW := fd) (fdS := fd) (k := k + 4) F Z N.np (wnt (k + 1)) (siz k) G m kp b
  have sgn : ∀ k, Pm P w K mg base CX0 (k + 2) "is_sign" ["thing"] spSg := fun k => .of D.d21 fun f fd F => ok_sg F X (isT k)
  have ish : ∀ k, Pm P w K mg base CX0 (k + 6) "_is_shape" ["thing", "high"] spIS := fun k => .of D.d22 fun f fd F => ok_is (k := k + 4) F X N.i4 (isU (k + 4)) (sgn (k + 3)) (isP (k + 2)) (siz k) (dts k)
  have ipo : ∀ k, Pm P w K mg base CX0 (k + 1) "_is_picture_of" ["picture", "shapes"] spIPO := fun k => .of D.d23 fun f fd F => ok_ipo F N.z8
  have ahi : ∀ k, Mm P w K mg base (k + 1) CA "high" ["self"] (spAH CA) := fun k => .of D.m1 fun f fd F => ok_ah F N.ta
  have ash : ∀ k, Mm P w K mg base (k + 1) CA "shapes" ["self"] (spAS CA) := fun k => .of D.m2 fun f fd F => ok_as F X N.ta
  have anu : ∀ k, Mm P w K mg base (k + 3) CA "_want_number" ["self", "number"] (spAN CA) := fun k => .of D.m4 fun f fd F => ok_an (k := k + 1) F X N.ta (btw k)
  have awi : ∀ k, Mm P w K mg base (k + 6) CA "wide" ["self", "number"] (spAW CA) := fun k => .of D.m3 fun f fd F => ok_aw (k := k + 4) F N.ta (siz k) (anu (k + 2))
  have wli : ∀ k, Pm P w K mg base CX0 (k + 6) "want_line" ["alphabet", "thing"] (spWL CA) := fun k => .of D.d24 fun f fd F => ok_wl (k := k + 4) F N.ta N.i2 (isP (k + 2)) (siz k) (ahi (k + 4))
  have wwi : ∀ k, Pm P w K mg base CX0 (k + 7) "want_window" ["alphabet", "line", "column", "number"] (spWW CA) := fun k => .of D.d25 fun f fd F => ok_ww (k := k + 5) F N.ta (wli k) (awi k) (btw (k + 4)) (siz (k + 1))
  have fiT : ∀ k, Pm P w K mg base CX0 (k + 8) "fit" ["alphabet", "line", "column", "number"] (spFit CA) := fun k => .of D.d26 fun f fd F => ok_fit (k := k + 6) F N.ta (wwi k) (ahi (k + 6)) (awi (k + 1)) (ash (k + 6)) (cut (k + 1)) (unl (k + 1))
  obtain ⟨fI, fdI, FI, mI, bI⟩ := (D.m0).ex
  have GI : FnOk P w K mg base CX0 7 fI fdI ["self", "high", "shapes"] (spAI CA) := ok_ai (k := 5) FI X N.ta N.z11 N.i3 N.i5 (btw 4) (isL 5) (ish 0) (ipo 5)
  exact ok_law (k := 7) F X N.ta N.z11 N.z10 N.z12 N.z13 ⟨N.mks, mI.at_, mI.fn, N.kp⟩ GI bI
    (.of D.d0 fun f fd F => ok_bg (k := 7) F N.z14) (nxt 7) (.of D.d5 fun f fd F => ok_shp (k := 4) F X N.z10 (nxt 6) (pck 5) (pct 5) (nea 5))
    (.of D.d6 fun f fd F => ok_ln (k := 4) F X N.z10 (nxt 6) (pck 5) (pct 5) (nea 5)) (fiT 0)
end
theorem end_mk12 {l : PySem.W.OpenLaw} {w : World} {K : PySem.W.Frag} {h : Heap} {mg : Str → Option Value} {fa f4 C CP CA : Addr} {oc : Value} {od an : Option Addr} {osl : Array (Option Value)} {kV doc pm cdv ct : Value} (X : K.In h) (G : h.Ns mainGlobals mg) (hfa : mg "law" = some (.ref fa))
    (a4 : PySem.W.nsIn K mainGlobals "law" = some (some (.ref f4))) (l4 : K.lookup f4 = some ⟨oc, od, .func (PySem.W.fnOf "law" "law" (defArgs sLaw) (defBody sLaw) (defScope sLaw) .none kV doc pm an cdv ct), osl⟩) (c4 : PySem.W.codeIn K cdv "law" = true) (k4 : PySem.W.keepIn K (.ref f4) = true)
    (D : AllD K mg CA) (N : AllN K mg C CP CA) :
    ∃ fd : FuncData, (∀ (s : Shared) (v : Value), BindsTo s fd ⟨[v], []⟩ [("script", v)]) ∧ ∀ base : Heap, K.In base → base.Ns mainGlobals mg → FnOk l.prog w K mg base CX0 9 fa fd ["script"] (spLaw K) := by
  have e := hfa.symm.trans (PySem.W.mg_of X G a4)
  cases e
  exact ⟨PySem.W.fnOf "law" "law" (defArgs sLaw) (defBody sLaw) (defScope sLaw) .none kV doc pm an cdv ct, fun s v => .of_eq rfl, fun base _ _ => facts D N (fun_mk l4 c4 k4)⟩
theorem walk {l : PySem.W.OpenLaw} {q : Program} {loose : List Str} {XP : (Str → Option Value) → Heap → Prop} {YP : World → Heap → Prop} {d : DefRec} {K : Params → PySem.W.Frag} (hn : l.most = some 63) (hdf : d.params.defaults = [])
    (hY : ∀ (w : World) (h : Heap), YP w h → (K w.params).In h)
    (F : ∀ (w : World) (mg : Str → Option Value) (fa : Addr) (h : Heap), (K w.params).In h → h.Ns mainGlobals mg → mg d.name = some (.ref fa) →
      ∃ fd : FuncData, (∀ (s : Shared) (u : Value), BindsTo s fd ⟨[u], []⟩ [("script", u)]) ∧ ∀ base : Heap, (K w.params).In base → base.Ns mainGlobals mg → FnOk l.prog w (K w.params) mg base CX0 9 fa fd ["script"] (spLaw (K w.params))) :
    PySem.W.WalkO q loose XP YP l.row.toRowW d [] (fun f vs => PySem.call f vs) :=
  L2.walk_of (n := 63) (k := 9) (x := "script") (CX := fun _ => CX0) (sp := fun w => spLaw (K w.params)) hn (by decide) hdf ⟨rfl, by decide, by decide⟩ hY F (fun _ _ a ns hl _ hS => ⟨a, ns, rfl, hS, hl, fun _ => rfl⟩) fun _ _ _ _ _ z => z
end Dt
open PySem PySem.W PyProof.Rows
set_option maxRecDepth 100000 in
set_option maxHeartbeats 0 in
theorem PySem.Challenge.cw_dotread_k12_fits_of_windows_holds : PySem.Challenge.rw_dotread_k12_fits_of_windows.Holds := by
  w_on; o_law; k_head; (case hw => w_witness2)
  k_fill
  refine Dt.walk (l := PySem.Challenge.rw_dotread_k12_fits_of_windows) rfl rfl (fun w h Y => PySem.W.kIn_of Y) ?F
  case F =>
    intro w mg fa h KX G hmg
    refine' Dt.end_mk12 KX G hmg ?aL ?lL ?cL ?kL ⟨Dt.df_mk KX G ?a0 ?l0 ?c0 ?k0 Dt.bnd0, Dt.df_mk KX G ?a1 ?l1 ?c1 ?k1 Dt.bnd1, Dt.df_mk KX G ?a2 ?l2 ?c2 ?k2 Dt.bnd2, Dt.df_mk KX G ?a3 ?l3 ?c3 ?k3 Dt.bnd3, Dt.df_mk KX G ?a4 ?l4 ?c4 ?k4 Dt.bnd4, Dt.df_mk KX G ?a5 ?l5 ?c5 ?k5 Dt.bnd5, Dt.df_mk KX G ?a6 ?l6 ?c6 ?k6 Dt.bnd6, Dt.df_mk KX G ?a7 ?l7 ?c7 ?k7 Dt.bnd7, Dt.df_mk KX G ?a8 ?l8 ?c8 ?k8 Dt.bnd8, Dt.df_mk KX G ?a9 ?l9 ?c9 ?k9 Dt.bnd9, Dt.df_mk KX G ?a10 ?l10 ?c10 ?k10 Dt.bnd10, Dt.df_mk KX G ?a11 ?l11 ?c11 ?k11 Dt.bnd11, Dt.df_mk KX G ?a12 ?l12 ?c12 ?k12 Dt.bnd12, Dt.df_mk KX G ?a13 ?l13 ?c13 ?k13 Dt.bnd13, Dt.df_mk KX G ?a14 ?l14 ?c14 ?k14 Dt.bnd14, Dt.df_mk KX G ?a15 ?l15 ?c15 ?k15 Dt.bnd15, Dt.df_mk KX G ?a16 ?l16 ?c16 ?k16 Dt.bnd16, Dt.df_mk KX G ?a17 ?l17 ?c17 ?k17 Dt.bnd17, Dt.df_mk KX G ?a18 ?l18 ?c18 ?k18 Dt.bnd18, Dt.df_mk KX G ?a19 ?l19 ?c19 ?k19 Dt.bnd19, Dt.df_mk KX G ?a20 ?l20 ?c20 ?k20 Dt.bnd20, Dt.df_mk KX G ?a21 ?l21 ?c21 ?k21 Dt.bnd21, Dt.df_mk KX G ?a22 ?l22 ?c22 ?k22 Dt.bnd22, Dt.df_mk KX G ?a23 ?l23 ?c23 ?k23 Dt.bnd23, Dt.df_mk KX G ?a24 ?l24 ?c24 ?k24 Dt.bnd24, Dt.df_mk KX G ?a25 ?l25 ?c25 ?k25 Dt.bnd25, Dt.df_mk KX G ?a26 ?l26 ?c26 ?k26 Dt.bnd26, Dt.dm_mk ?ma0 ?mi0 ?ml0 ?mc0 ?mk0 Dt.bnm0, Dt.dm_mk ?ma1 ?mi1 ?ml1 ?mc1 ?mk1 Dt.bnm1, Dt.dm_mk ?ma2 ?mi2 ?ml2 ?mc2 ?mk2 Dt.bnm2, Dt.dm_mk ?ma3 ?mi3 ?ml3 ?mc3 ?mk3 Dt.bnm3, Dt.dm_mk ?ma4 ?mi4 ?ml4 ?mc4 ?mk4 Dt.bnm4⟩ ⟨mg_none_of KX G ?z0, mg_none_of KX G ?z1, mg_none_of KX G ?z2, mg_none_of KX G ?z3, mg_none_of KX G ?z4, mg_none_of KX G ?z5, mg_none_of KX G ?z6, mg_none_of KX G ?z7, mg_none_of KX G ?z8, mg_none_of KX G ?z9, mg_none_of KX G ?z10, mg_none_of KX G ?z11, mg_none_of KX G ?z12, mg_none_of KX G ?z13, mg_none_of KX G ?z14, Dt.gli_mk KX G ?i0, Dt.gli_mk KX G ?i1, Dt.gli_mk KX G ?i2, Dt.gli_mk KX G ?i3, Dt.gli_mk KX G ?i4, Dt.gli_mk KX G ?i5, ⟨mg_of KX G ?nC2, ?nx, ?nk, ?nb, ?nt⟩, Dt.exN_mk KX G ?nP2 ?px ?pk ?pb ?pt, ⟨⟨?tg, ?th, ?to, ?ts⟩, Dt.noa ?tH, Dt.noa ?tS, mg_of KX G ?nA⟩, ?mm, ?mp⟩
    (case nC2 => k_is)
    (case nP2 => k_is)
    (case nA => k_is)
    (case aL => k_is)
    (case lL => k_is)
    (case cL => k_is)
    (case kL => k_is)
    (case a0 => k_is)
    (case l0 => k_is)
    (case c0 => k_is)
    (case k0 => k_is)
    (case a1 => k_is)
    (case l1 => k_is)
    (case c1 => k_is)
    (case k1 => k_is)
    (case a2 => k_is)
    (case l2 => k_is)
    (case c2 => k_is)
    (case k2 => k_is)
    (case a3 => k_is)
    (case l3 => k_is)
    (case c3 => k_is)
    (case k3 => k_is)
    (case a4 => k_is)
    (case l4 => k_is)
    (case c4 => k_is)
    (case k4 => k_is)
    (case a5 => k_is)
    (case l5 => k_is)
    (case c5 => k_is)
    (case k5 => k_is)
    (case a6 => k_is)
    (case l6 => k_is)
    (case c6 => k_is)
    (case k6 => k_is)
    (case a7 => k_is)
    (case l7 => k_is)
    (case c7 => k_is)
    (case k7 => k_is)
    (case a8 => k_is)
    (case l8 => k_is)
    (case c8 => k_is)
    (case k8 => k_is)
    (case a9 => k_is)
    (case l9 => k_is)
    (case c9 => k_is)
    (case k9 => k_is)
    (case a10 => k_is)
    (case l10 => k_is)
    (case c10 => k_is)
    (case k10 => k_is)
    (case a11 => k_is)
    (case l11 => k_is)
    (case c11 => k_is)
    (case k11 => k_is)
    (case a12 => k_is)
    (case l12 => k_is)
    (case c12 => k_is)
    (case k12 => k_is)
    (case a13 => k_is)
    (case l13 => k_is)
    (case c13 => k_is)
    (case k13 => k_is)
    (case a14 => k_is)
    (case l14 => k_is)
    (case c14 => k_is)
    (case k14 => k_is)
    (case a15 => k_is)
    (case l15 => k_is)
    (case c15 => k_is)
    (case k15 => k_is)
    (case a16 => k_is)
    (case l16 => k_is)
    (case c16 => k_is)
    (case k16 => k_is)
    (case a17 => k_is)
    (case l17 => k_is)
    (case c17 => k_is)
    (case k17 => k_is)
    (case a18 => k_is)
    (case l18 => k_is)
    (case c18 => k_is)
    (case k18 => k_is)
    (case a19 => k_is)
    (case l19 => k_is)
    (case c19 => k_is)
    (case k19 => k_is)
    (case a20 => k_is)
    (case l20 => k_is)
    (case c20 => k_is)
    (case k20 => k_is)
    (case a21 => k_is)
    (case l21 => k_is)
    (case c21 => k_is)
    (case k21 => k_is)
    (case a22 => k_is)
    (case l22 => k_is)
    (case c22 => k_is)
    (case k22 => k_is)
    (case a23 => k_is)
    (case l23 => k_is)
    (case c23 => k_is)
    (case k23 => k_is)
    (case a24 => k_is)
    (case l24 => k_is)
    (case c24 => k_is)
    (case k24 => k_is)
    (case a25 => k_is)
    (case l25 => k_is)
    (case c25 => k_is)
    (case k25 => k_is)
    (case a26 => k_is)
    (case l26 => k_is)
    (case c26 => k_is)
    (case k26 => k_is)
    (case ma0 => k_is)
    (case mi0 => k_is)
    (case ml0 => k_is)
    (case mc0 => k_is)
    (case mk0 => k_is)
    (case ma1 => k_is)
    (case mi1 => k_is)
    (case ml1 => k_is)
    (case mc1 => k_is)
    (case mk1 => k_is)
    (case ma2 => k_is)
    (case mi2 => k_is)
    (case ml2 => k_is)
    (case mc2 => k_is)
    (case mk2 => k_is)
    (case ma3 => k_is)
    (case mi3 => k_is)
    (case ml3 => k_is)
    (case mc3 => k_is)
    (case mk3 => k_is)
    (case ma4 => k_is)
    (case mi4 => k_is)
    (case ml4 => k_is)
    (case mc4 => k_is)
    (case mk4 => k_is)
    (case z0 => k_is)
    (case z1 => k_is)
    (case z2 => k_is)
    (case z3 => k_is)
    (case z4 => k_is)
    (case z5 => k_is)
    (case z6 => k_is)
    (case z7 => k_is)
    (case z8 => k_is)
    (case z9 => k_is)
    (case z10 => k_is)
    (case z11 => k_is)
    (case z12 => k_is)
    (case z13 => k_is)
    (case z14 => k_is)
    (case i0 => k_is)
    (case i1 => k_is)
    (case i2 => k_is)
    (case i3 => k_is)
    (case i4 => k_is)
    (case i5 => k_is)
    (case nk => k_is)
    (case nb => k_is)
    (case nt => k_is)
    (case pk => k_is)
    (case pb => k_is)
    (case pt => k_is)
    (case tg => k_is)
    (case th => k_is)
    (case to => k_is)
    (case ts => k_is)
    (case tH => k_is)
    (case tS => k_is)
    (case mm => k_is)
    (case mp => k_is)
    (case nx => first | kernel_rfl | decide +kernel | rfl)
    (case px => first | kernel_rfl | decide +kernel | rfl)
#print axioms PySem.Challenge.cw_dotread_k12_fits_of_windows_holds
