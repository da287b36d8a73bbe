import PyProof.Rows.All
import Wide.All
import OpenK.AllK
import Wide.FinOn
import HandS.ForMost
import PyProof.TypeEq
import PyProof.InstEq
import PyProof.StrBlock2
import HandS.Wide
import HandS.Codes
import PySem.Challenge.RW_dotread_k39_lines_in_boxes
import HandS.TupMul
import HandS.TupAny
import HandS.More
import PyProof.ListStr
import HandS.ForExc
import HandS.Zip
import KE.GoesMore
import KE.GoesZip
import KE.GoesEnum
import HandS.Deep
import HandS.List
import HandS.Text
import HandS.WideBits
import HandS.Sort
import HandS.Iter
import HandS.Star
import HandS.Defaults
import HandS.MakeKwOnly
import HandS.Flow
import HandS.IsInst
set_option Elab.async false
set_option linter.all false
set_option maxRecDepth 100000
set_option maxHeartbeats 4000000
/-! rules of our own: types compared, a text times a number -/
namespace TyNe
open PySem PySem.TypeEq
open Sem (wp)
open Builtin
theorem slot_type_ne : Slot "type" (cmpInfo .NotEq).2.1 "object.__ne__" :=
  .of (owner := "object") (n := "__ne__") (by rw [typeLookup_type, builtinLookup_eq_fast]; kernel_rfl) (by decide +kernel) (by decide +kernel) (by decide +kernel)
    (by first | exact .inl (by decide +kernel) | exact .inr (by decide +kernel)) (by rw [isSubtype_type]; kernel_rfl)
theorem slot_type_ne2 : Slot "type" (cmpInfo .NotEq).2.2 "object.__ne__" :=
  .of (owner := "object") (n := "__ne__") (by rw [typeLookup_type, builtinLookup_eq_fast]; kernel_rfl) (by decide +kernel) (by decide +kernel) (by decide +kernel)
    (by first | exact .inl (by decide +kernel) | exact .inr (by decide +kernel)) (by rw [isSubtype_type]; kernel_rfl)
section
variable {prog : Program} {w : World} {A : Around} {E : Value → Shared → Prop} {s : Shared}
theorem call_ne_same {X : String} {Q : Value → Shared → Prop} (hX : ∀ s' : Shared, s'.TypeIs (.type X) "type") (h : Q (.bool false) s) : wpAny (model prog w) A (call (.builtin "object.__ne__") [.type X, .type X]) Q E s := by
  refine wpAny_call (codeAny_call_builtin slot_type_ne.plain F.cmpEntry_ne (slot_type_ne.check _ _ _ _ _ _ _ _ (hX s) (F.cmpArgs_ne _ _) ?_))
  unfold Builtin.«object.__ne__»
  repeat (first
    | with_reducible refine wpAny_cRoomFor_or (.inl rfl) ?_
    | (refine wpAny_bind (m := callSpecialIfBound? (.type X) (Str.ofString "__eq__") [.type X])
        (wpAny_callSpecialIfBound?_slot (hX _) slot_type_eq (call_gives slot_type_eq (hX _) F.entry_object_eq (F.args_object_eq_2 _ _) (object_eq_same rfl (by simp)) ?_)))
    | wp_step)
  show wpAny (model prog w) A.in1 (truthy (.bool true) >>= fun b => ret (.bool !b)) _ _ _
  exact wpAny_bind (wpAny_truthy_bool (wpAny_pure h))
theorem call_ne_other {X Y : String} {Q : Value → Shared → Prop} (hX : ∀ s' : Shared, s'.TypeIs (.type X) "type") (hne : (Value.type X == Value.type Y) = false) (h : Q .notImplemented s) : wpAny (model prog w) A (call (.builtin "object.__ne__") [.type X, .type Y]) Q E s := by
  refine wpAny_call (codeAny_call_builtin slot_type_ne.plain F.cmpEntry_ne (slot_type_ne.check _ _ _ _ _ _ _ _ (hX s) (F.cmpArgs_ne _ _) ?_))
  unfold Builtin.«object.__ne__»
  repeat (first
    | with_reducible refine wpAny_cRoomFor_or (.inl rfl) ?_
    | (refine wpAny_bind (m := callSpecialIfBound? (.type X) (Str.ofString "__eq__") [.type Y])
        (wpAny_callSpecialIfBound?_slot (hX _) slot_type_eq (call_gives slot_type_eq (hX _) F.entry_object_eq (F.args_object_eq_2 _ _) (object_eq_other rfl hne) ?_)))
    | wp_step)
  show wpAny (model prog w) A.in1 (ret .notImplemented) _ _ _
  exact wpAny_pure h
theorem ne_type_same {X : String} {Q : Value → Shared → Prop} (hX : ∀ s' : Shared, s'.TypeIs (.type X) "type") (h : Q (.bool false) s) : wpAny (model prog w) A (compareOp .NotEq (.type X) (.type X)) Q E s := by
  show wpAny _ A (richCompare .NotEq _ _) Q E s
  exact wpAny_richCompare_same (T := "type") (hX s) (hX s) slot_type_ne (call_ne_same hX ⟨(by intro e; cases e), h⟩)
theorem ne_type_other {X Y : String} {Q : Value → Shared → Prop} (hX : ∀ s' : Shared, s'.TypeIs (.type X) "type") (hY : ∀ s' : Shared, s'.TypeIs (.type Y) "type") (hne : (Value.type X == Value.type Y) = false) (h : Q (.bool true) s) :
    wpAny (model prog w) A (compareOp .NotEq (.type X) (.type Y)) Q E s := by
  have hne' : (Value.type Y == Value.type X) = false := by
    rw [Bool.eq_false_iff] at hne ⊢
    intro e
    exact hne (by rw [beq_iff_eq] at e ⊢; exact e.symm)
  show wpAny _ A (richCompare .NotEq _ _) Q E s
  have h1 := slot_type_ne
  have h2 := slot_type_ne2
  rcases hi : cmpInfo CmpOp.NotEq with ⟨sym, f, r⟩
  rw [hi] at h1 h2
  simp only [richCompare, hi, (hX s).oneThing_none]
  try with_reducible refine wpAny_holding ?_
  refine wpAny_bind (wpAny_cRoomFor_or (.inl rfl) ?_)
  refine wpAny_bind (wpAny_typeOf (hX s) (wpAny_bind (wpAny_typeOf (hY s) ?_)))
  simp only [bne_self_eq_false, Bool.false_eq_true, if_false, pure_bind, Bool.not_false, if_true]
  refine wpAny_bind (m := tryCompare _ _ _) (wpAny_tryCompare_declines (hX s) h1 (call_ne_other hX hne ⟨rfl, ?_⟩))
  refine wpAny_bind (m := tryCompare _ _ _) (wpAny_tryCompare_declines (hY _) h2 (call_ne_other hY hne' ⟨rfl, ?_⟩))
  refine wpAny_bind (wpAny_rule (wpAny_bind (wpAny_of_eq (a := false) (by rw [isSame_plain rfl, hne]) (wpAny_pure h))))
end
end TyNe
namespace L2X
open PySem PySem.Spec PyProof.Rows L2
/-- the built-in classes that are compared here -/
def tyOk (a : String) : Bool := a = "int" ∨ a = "str" ∨ a = "bool" ∨ a = "NoneType" ∨ a = "list" ∨ a = "tuple" ∨ a = "dict"
theorem tyOk_is {a : String} (h : tyOk a = true) : ∀ s' : Shared, s'.TypeIs (.type a) "type" := by
  unfold tyOk at h
  rcases of_decide_eq_true h with rfl | rfl | rfl | rfl | rfl | rfl | rfl
  · exact TypeEq.meta_int
  · exact TypeEq.meta_str
  · exact TypeEq.meta_bool
  · exact TypeEq.meta_NoneType
  · exact TypeEq.meta_list
  · exact TypeEq.meta_tuple
  · exact TypeEq.meta_dict
theorem ty_ne {a b : String} (h : a ≠ b) : (Value.type a == Value.type b) = false := beq_eq_false_iff_ne.mpr fun z => h (Value.type.inj z)
def rTyC (g : Bool → Bool) : R2 := fun x y H Q => ∃ a b, x = .ty a ∧ y = .ty b ∧ tyOk a = true ∧ tyOk b = true ∧ Q (.bl (g (decide (a = b)))) H
section
variable {X : Cx}
theorem op_eq_ty : OpR X (compareOp .Eq) (rTyC id) := by
  intro pins s σ H x y v u Q I rx ry h
  obtain ⟨a, b, rfl, rfl, ha, hb, q⟩ := h
  cases (show v = Value.type a from rx)
  cases (show u = Value.type b from ry)
  by_cases e : a = b
  · subst e
    refine TypeEq.eq_type_same (tyOk_is ha) ⟨.bl true, H, I, rfl, ?_⟩
    rw [decide_eq_true rfl] at q
    exact q
  · refine TypeEq.eq_type_other (tyOk_is ha) (tyOk_is hb) (ty_ne e) ⟨.bl false, H, I, rfl, ?_⟩
    rw [decide_eq_false e] at q
    exact q
theorem op_ne_ty : OpR X (compareOp .NotEq) (rTyC not) := by
  intro pins s σ H x y v u Q I rx ry h
  obtain ⟨a, b, rfl, rfl, ha, hb, q⟩ := h
  cases (show v = Value.type a from rx)
  cases (show u = Value.type b from ry)
  by_cases e : a = b
  · subst e
    refine TyNe.ne_type_same (tyOk_is ha) ⟨.bl false, H, I, rfl, ?_⟩
    rw [decide_eq_true rfl] at q
    exact q
  · refine TyNe.ne_type_other (tyOk_is ha) (tyOk_is hb) (ty_ne e) ⟨.bl true, H, I, rfl, ?_⟩
    rw [decide_eq_false e] at q
    exact q
/-- text * n -/
theorem op_mul_str : OpR X (binaryOp .Mult) (fun x y H Q => ∃ z n, x = .str z ∧ y = .int n ∧ MulOk z n ∧ Q (.str (Txt.mul z n)) H) := by
  intro pins s σ H x y v u Q I rx ry h
  obtain ⟨z, n, rfl, rfl, hk, q⟩ := h
  obtain ⟨t, rfl⟩ := rx
  obtain ⟨t', rfl⟩ := ry
  exact SB.mul hk fun t' k => ⟨.str _, H, I.tok _, ⟨_, rfl⟩, q⟩
end
end L2X
namespace Dt
open PySem PySem.Spec PyProof.Rows L2
def topS (i : Nat) : Stmt := PySem.Challenge.pw_dotread_k39_lines_in_boxes.main.body.getD i (.Pass ⟨0, 0, 0, 0⟩)
theorem inr_ne {a b : Str} (h : ¬ a = b) : ¬ (Sum.inr a : Key) = Sum.inr b := fun z => h (Sum.inr.inj z)
theorem same_upd {H : Hp} {p : Addr} {o : HO} (h : H p = none) : Same H (upd H p o) := fun b x e => by
  rw [upd_ne (ne_of_none e h)]
  exact e
theorem dpInts {K : PySem.W.Frag} {H : Hp} : ∀ ns : List Int, DpAll K H (ns.map V.int) (ns.map PyData.int)
  | [] => .nil
  | n :: r => .cons (.int n) (dpInts r)
end Dt
namespace Dt
open PySem PySem.Spec PyProof.Rows L2 L2X
open SX (S)
/-- the built-ins that are named in the text -/
structure Tx (mg : Str → Option Value) : Prop where
  len : mg "len" = none
  range : mg "range" = none
  tuple : mg "tuple" = none
  list : mg "list" = none
  int : mg "int" = none
/-! ### rows and pictures -/
def rv (l : List Nat) : V := .str (S l)
structure RowR (wide : Nat) (l : List Nat) : Prop where
  len : l.length = wide
  sg : ∀ c ∈ l, c = 35 ∨ c = 46
structure PicR (high wide : Nat) (rs : List (List Nat)) : Prop where
  len : rs.length = high
  row : ∀ l ∈ rs, RowR wide l
  h0 : 1 ≤ high
  h1 : high ≤ 60
  w0 : 1 ≤ wide
  w1 : wide ≤ 120
theorem s_dot : ("." : Str) = S [46] := by decide +kernel
theorem s_hash : ("#" : Str) = S [35] := by decide +kernel
theorem s_empty : ("" : Str) = S [] := by decide +kernel
/-! ### a sign many times; signs joined -/
theorem fold_rep (c : Nat) : ∀ (n : Nat) (acc : Array Nat), (List.replicate n #[c]).foldl (· ++ ·) acc = acc ++ (List.replicate n c).toArray
  | 0, acc => by simp
  | n + 1, acc => by
    rw [List.replicate_succ, List.foldl_cons, fold_rep c n (acc ++ #[c]), List.replicate_succ]
    apply Array.ext'
    simp
theorem mul_sign (c n : Nat) (h : 1 ≤ n) : Txt.mul (S [c]) (n : Int) = S (List.replicate n c) := by
  unfold Txt.mul
  rw [if_neg (by omega)]
  by_cases e : n = 1
  · subst e
    rfl
  · have e1 : (((n : Int) == 1) || (S [c]).length == 0) = false := by
      have a1 : ((n : Int) == 1) = false := by
        rw [beq_eq_false_iff_ne]
        omega
      rw [a1]
      rfl
    rw [e1, if_neg Bool.false_ne_true]
    have q := fold_rep c n #[]
    show (⟨(List.replicate (n : Int).toNat #[c]).foldl (· ++ ·) #[]⟩ : Str) = _
    rw [Int.toNat_natCast, q]
    simp [S]
theorem mul_ok (c n : Nat) (h : 1 ≤ n) (h2 : n ≤ 120) : MulOk (S [c]) (n : Int) := by
  refine ⟨?_, fun _ _ => ?_, fun _ _ => ?_⟩
  · rw [Bool.or_eq_false_iff, decide_eq_false_iff_not, decide_eq_false_iff_not]
    omega
  · show ¬ ((1 : Nat) : Int) > (2 ^ 63 - 1) / (n : Int)
    have : (1 : Int) ≤ (2 ^ 63 - 1) / (n : Int) := (Int.le_ediv_iff_mul_le (by omega)).mpr (by omega)
    omega
  · have e : (S [c]).length * (n : Int).toNat = n := by
      show 1 * (n : Int).toNat = n
      omega
    rw [e]
    unfold Builtin.Str.tooLong
    have z : n ≤ sizeLine := Nat.le_of_lt (small1000 (by omega))
    first
      | (rw [decide_eq_false_iff_not]; omega)
      | (simp; omega)
theorem joinL_ones : ∀ cs : List Nat, TL.joinL [] (cs.map fun c => [c]) = cs
  | [] => rfl
  | [c] => rfl
  | c :: d :: r => by
    show [c] ++ ([] ++ TL.joinL [] ((d :: r).map fun c => [c])) = _
    rw [joinL_ones (d :: r)]
    rfl
theorem join_ones (cs : List Nat) : Txt.join "" (cs.map fun c => S [c]) = S cs := by
  rw [s_empty]
  have e := SX.join_S [] (cs.map fun c => [c])
  rw [joinL_ones, List.map_map] at e
  exact e
theorem lens_ones : ∀ cs : List Nat, ((cs.map fun c => S [c]).map (·.length)).sum = cs.length
  | [] => rfl
  | c :: r => by
    show 1 + ((r.map fun c => S [c]).map (·.length)).sum = r.length + 1
    rw [lens_ones r, Nat.add_comm]
theorem row_rep (c wide : Nat) (h : c = 35 ∨ c = 46) : RowR wide (List.replicate wide c) := ⟨List.length_replicate, fun x hx => by rw [(List.mem_replicate.mp hx).2]; exact h⟩
end Dt
namespace Dt
open PySem PySem.Spec PyProof.Rows L2 L2X
open SX (S)
/-! ### what is a picture -/
def rowOk : V → Bool
  | .str x => decide (1 ≤ x.length) && decide (x.length ≤ 120) && decide (Txt.count x "#" + Txt.count x "." = (x.length : Int))
  | _ => false
theorem rowOk_str (x : Str) : rowOk (.str x) = (decide (1 ≤ x.length) && decide (x.length ≤ 120) && decide (Txt.count x "#" + Txt.count x "." = (x.length : Int))) := rfl
def lenV : V → Int
  | .str x => x.length
  | _ => 0
def picOk (xs : List V) : Bool := decide (1 ≤ xs.length) && decide (xs.length ≤ 60) && xs.all rowOk && xs.all fun y => decide (lenV y = lenV (xs.headD .non))
/-- a thing of a known kind -/
def Kn (K : PySem.W.Frag) (H : Hp) (x : V) : Prop := (∃ T, TyB K H x T ∧ tyOk T = true) ∧ ∀ z, x = .str z → z.length ≤ sizeLine
structure Tp (mg : Str → Option Value) : Prop where
  typ : mg "type" = none
  str : mg "str" = none
  all : mg "all" = none
  mr : ∃ t, mg "MOST_ROWS" = some (.int 60 t)
  mc : ∃ t, mg "MOST_COLUMNS" = some (.int 120 t)
abbrev sIsText : Stmt := topS 8
theorem scIsText : FnScope ["thing"] ["thing"] (defScope sIsText) := ⟨rfl, rfl, rfl, by decide +kernel, rfl, by decide +kernel, by decide +kernel⟩
def isStr : V → Bool
  | .str _ => true
  | _ => false
def spIsText (K : PySem.W.Frag) : Sp := fun vs H Q _ => ∃ x, vs = [x] ∧ Kn K H x ∧ Q (.bl (isStr x)) H
abbrev sIsRow : Stmt := topS 14
theorem scIsRow : FnScope ["thing"] ["thing"] (defScope sIsRow) := ⟨rfl, rfl, rfl, by decide +kernel, rfl, by decide +kernel, by decide +kernel⟩
def spIsRow (K : PySem.W.Frag) : Sp := fun vs H Q _ => ∃ x, vs = [x] ∧ Kn K H x ∧ Q (.bl (rowOk x)) H
theorem isStr_ty {K : PySem.W.Frag} {H : Hp} {x : V} {T : String} (t : TyB K H x T) : decide (T = "str") = isStr x := by
  cases t <;> rfl
section
variable {P : Program} {w : World} {K : PySem.W.Frag} {mg : Str → Option Value} {base : Heap}
theorem ok_isText {f : Addr} {fd : FuncData} {k : Nat} (F : Fun K "is_text" "is_text" sIsText f fd) (T : Tp mg) : FnOk P w K mg base CX0 (k + 1) f fd ["thing"] (spIsText K) := by
  refine F.ok scIsText (fun vs H Q E h => ?_) (fun cdv A outer s H vs Q E hr h => ?_)
  · obtain ⟨x, rfl, _⟩ := h
    rfl
  · obtain ⟨x, rfl, ⟨⟨Ty, ht, ok⟩, _⟩, q⟩ := h
    refine ⟨_, pss_one (ps_ret (pe_cmpR op_eq_ty (pe_callTy call_type1 (by rfl) T.typ (by decide +kernel) (pa_cons (pv 0) pa_nil)) (pe_bltn (v := .ty "str") (u := .type "str") (by rfl) T.str (by decide +kernel) rfl) (nomark _))), ?_⟩
    refine ⟨x, rfl, x, Ty, rfl, ht, Ty, "str", rfl, rfl, ok, rfl, ?_⟩
    have e : id (decide (Ty = "str")) = isStr x := isStr_ty ht
    rw [e]
    exact q
theorem ok_isRow {f fT : Addr} {fd fdT : FuncData} {k : Nat} (F : Fun K "_is_row" "_is_row" sIsRow f fd) (T : Tp mg) (X : Tx mg) (GT : FnOk P w K mg base CX0 (k + 1) fT fdT ["thing"] (spIsText K)) (mT : mg "is_text" = some (.ref fT)) (kT : PySem.W.keepIn K (.ref fT) = true) (bT : Binds K fdT ["thing"] []) : FnOk P w K mg base CX0 (k + 2) f fd ["thing"] (spIsRow K) := by
  refine F.ok scIsRow (fun vs H Q E h => ?_) (fun cdv A outer s H vs Q E hr h => ?_)
  · obtain ⟨x, rfl, _⟩ := h
    rfl
  · obtain ⟨x, rfl, kn, q⟩ := h
    obtain ⟨t, hmc⟩ := T.mc
    refine ⟨_, pss_cons (ps_if (PW.pt (pw_or (pt_not (pt_val (pe_call GT hr (by rfl) mT kT bT .nil pass0 (pa_cons (pv 0) pa_nil)))) (pw_or1 (pt_not (pt_chain op_le op_le pe_int (pe_callB call_len_str (by rfl) X.len PySem.boot_len (pa_cons (pv 0) pa_nil)) (pe_glob (v := .int 120) (by rfl) hmc ⟨_, rfl⟩))))))
        (pss_one (ps_ret pe_bl)) pss_nil)
      (pss_one (ps_ret (pe_cmpR op_eq (pe_op op_add (pe_m1 PySem.F.slot_str_count PySem.F.type_str_count mt_count (pv 0) pe_str) (pe_m1 PySem.F.slot_str_count PySem.F.type_str_count mt_count (pv 0) pe_str)) (pe_callB call_len_str (by rfl) X.len PySem.boot_len (pa_cons (pv 0) pa_nil)) (nomark _)))), ?_⟩
    refine ⟨x, rfl, x, rfl, kn, _, rfl, ?_⟩
    cases x with
    | str z =>
      have hz := kn.2 z rfl
      refine iteF ?_
      refine ⟨.str z, rfl, z, rfl, hz, 1, _, rfl, rfl, _, rfl, ?_⟩
      refine ite2 (fun e => ?_) (fun e => ?_)
      · refine ⟨_, 120, rfl, rfl, _, rfl, ite2 (fun e2 => ?_) (fun e2 => ?_)⟩
        · have e3 : ¬ z.length ≤ 120 := fun le => by
            have : decide ((z.length : Int) ≤ 120) = true := decide_eq_true (by omega)
            rw [this] at e2
            cases e2
          have e4 : rowOk (.str z) = false := by
            rw [rowOk_str, decide_eq_false e3, Bool.and_false, Bool.false_and]
          rw [e4] at q
          exact q
        · have e3 : z.length ≤ 120 := by
            have h1 : ¬ ((!decide ((z.length : Int) ≤ 120)) = true) := e2
            have h2 : decide ((z.length : Int) ≤ 120) = true := by
              cases hh : decide ((z.length : Int) ≤ 120) with
              | true => rfl
              | false =>
                rw [hh] at h1
                exact absurd rfl h1
            have := of_decide_eq_true h2
            omega
          have e1 : 1 ≤ z.length := by
            have := of_decide_eq_true e
            omega
          refine ⟨.str z, rfl, ⟨_, rfl⟩, z, "#", rfl, rfl, .str z, rfl, ⟨_, rfl⟩, z, ".", rfl, rfl, _, _, rfl, rfl, .str z, rfl, z, rfl, hz, rfl, ?_⟩
          have e4 : rowOk (.str z) = decide (V.int (Txt.count z "#" + Txt.count z ".") = V.int (z.length : Int)) := by
            rw [rowOk_str, decide_eq_true e1, decide_eq_true e3, Bool.true_and, Bool.true_and]
            exact Bool.eq_iff_iff.mpr ⟨fun h => decide_eq_true (congrArg V.int (of_decide_eq_true h)), fun h => decide_eq_true (V.int.inj (of_decide_eq_true h))⟩
          rw [e4] at q
          exact q
      · have e1 : ¬ 1 ≤ z.length := fun le => e (decide_eq_true (by omega))
        have e4 : rowOk (.str z) = false := by
          rw [rowOk_str, decide_eq_false e1, Bool.false_and, Bool.false_and]
        rw [e4] at q
        exact ⟨_, rfl, q⟩
    | _ => exact iteT (iteT q)
/-! ### is_picture -/
abbrev sIsPic : Stmt := topS 13
theorem scIsPic : FnScope ["thing", "row"] ["thing"] (defScope sIsPic) := ⟨rfl, rfl, rfl, by decide +kernel, rfl, by decide +kernel, by decide +kernel⟩
/-- a thing as is_picture may be asked: no tuple, or a tuple whose items are of known kinds -/
def Asked (K : PySem.W.Frag) (H : Hp) (x : V) (b : Bool) : Prop :=
  (∃ T, TyB K H x T ∧ tyOk T = true ∧ T ≠ "tuple" ∧ b = false) ∨ ∃ a xs, x = .ref a ∧ SqT K H a xs ∧ (xs.length ≤ 60 → ∀ y ∈ xs, Kn K H y) ∧ b = picOk xs
def spIsPic (K : PySem.W.Frag) : Sp := fun vs H Q _ => ∃ x b, vs = [x] ∧ Asked K H x b ∧ ∀ H', Same H H' → Q (.bl b) H'
theorem sameT {K : PySem.W.Frag} {H H' : Hp} {a : Addr} {xs : List V} (e : Same H H') (h : SqT K H a xs) : SqT K H' a xs := by
  rcases h with (h | ⟨o, h⟩) | h
  · exact .inl (.inl (e _ _ h))
  · exact .inl (.inr ⟨o, e _ _ h⟩)
  · exact .inr h
theorem Kn.same {H H' : Hp} {x : V} (h : Kn K H x) (s : Same H H') : Kn K H' x := by
  obtain ⟨⟨T, t, ok⟩, hz⟩ := h
  refine ⟨⟨T, ?_, ok⟩, hz⟩
  cases t with
  | non => exact .non
  | bl b => exact .bl b
  | int i => exact .int i
  | str x => exact .str x
  | byt b => exact .byt b
  | lst h => exact .lst (s.seq h)
  | tup h => exact .tup (sameT s h)
  | dK h => exact .dK (s _ _ h)
theorem iteE {c : Bool} {A B : Prop} (e : c = false) (h : B) : if c = true then A else B := by
  rw [e]
  exact iteF h
theorem iteY {c : Bool} {A B : Prop} (e : c = true) (h : A) : if c = true then A else B := by
  rw [e]
  exact iteT h
theorem take_snoc {α : Type} {xs : List α} {i : Nat} {x : α} (h : xs[i]? = some x) : xs.take (i + 1) = xs.take i ++ [x] := by
  rw [List.take_add_one, h]
  rfl
theorem all_map_id {α : Type} (f : α → Bool) : ∀ xs : List α, (xs.map f).all id = xs.all f
  | [] => rfl
  | x :: r => by
    show (id (f x) && (r.map f).all id) = (f x && r.all f)
    rw [all_map_id f r]
    rfl
theorem bls {α : Type} (f : α → Bool) (xs : List α) : xs.map (fun y => V.bl (f y)) = (xs.map f).map V.bl := by
  rw [List.map_map]
  rfl
theorem ok_isPic {f fR : Addr} {fd fdR : FuncData} {k : Nat} (F : Fun K "is_picture" "is_picture" sIsPic f fd) (T : Tp mg) (X : Tx mg) (GR : FnOk P w K mg base CX0 (k + 1) fR fdR ["thing"] (spIsRow K)) (mR : mg "_is_row" = some (.ref fR)) (kR : PySem.W.keepIn K (.ref fR) = true) (bR : Binds K fdR ["thing"] []) : FnOk P w K mg base CX0 (k + 2) f fd ["thing"] (spIsPic K) := by
  refine F.ok scIsPic (fun vs H Q E h => ?_) (fun cdv A outer s H vs Q E hr h => ?_)
  · obtain ⟨x, b, rfl, _⟩ := h
    rfl
  · obtain ⟨x, b, rfl, ask, q⟩ := h
    obtain ⟨t, hmr⟩ := T.mr
    have nd := scIsPic.nd
    refine ⟨_, pss_cons (ps_if (PW.pt (pw_or (pt_cmpR op_ne_ty (pe_callTy call_type1 (by rfl) T.typ (by decide +kernel) (pa_cons (pv 0) pa_nil)) (pe_bltn (v := .ty "tuple") (u := .type "tuple") (by rfl) X.tuple (by decide +kernel) rfl) (nomark _)) (pw_or1 (pt_not (pt_chain op_le op_le pe_int (pe_callB call_len_seq (by rfl) X.len PySem.boot_len (pa_cons (pv 0) pa_nil)) (pe_glob (v := .int 60) (by rfl) hmr ⟨_, rfl⟩))))))
        (pss_one (ps_ret pe_bl)) pss_nil)
      (pss_cons (ps_if (pt_not (pt_val (pe_callB (cr_all rfl) (by rfl) T.all (by decide +kernel) (pa_cons (pe_lc (own := [("row", 1)]) (g := gName 1) (tt := tYes) rfl nd (pi_tup (pv 0)) (blkOk_by (N := ["thing", "row"]) (sc := defScope sIsPic) (by decide +kernel)) (fun _ _ _ _ _ => pg_name (i := 1) nd rfl (Or.inl rfl)) (fun _ _ _ _ _ => pts_nil)
            (fun _ _ _ _ _ => pe_call GR hr (by rfl) mR kR bR .nil pass0 (pa_cons (pv 1) pa_nil))) pa_nil)))) (pss_one (ps_ret pe_bl)) pss_nil)
      (pss_one (ps_ret (pe_callB (cr_all rfl) (by rfl) T.all (by decide +kernel) (pa_cons (pe_lc (own := [("row", 1)]) (g := gName 1) (tt := tYes) rfl nd (pi_tup (pv 0)) (blkOk_by (N := ["thing", "row"]) (sc := defScope sIsPic) (by decide +kernel)) (fun _ _ _ _ _ => pg_name (i := 1) nd rfl (Or.inl rfl)) (fun _ _ _ _ _ => pts_nil)
            (fun _ _ _ _ _ => pe_cmpR op_eq (pe_callB call_len_str (by rfl) X.len PySem.boot_len (pa_cons (pv 1) pa_nil)) (pe_callB call_len_str (by rfl) X.len PySem.boot_len (pa_cons (pe_ix (r := rIxT K) ix_tup (pv 0) pe_int (fun _ _ => rfl)) pa_nil)) (nomark _))) pa_nil))))), ?_⟩
    rcases ask with ⟨Ty, ht, ok, ne, rfl⟩ | ⟨a, xs, rfl, hx, kn, rfl⟩
    · refine ⟨x, rfl, x, Ty, rfl, ht, Ty, "tuple", rfl, rfl, ok, rfl, _, rfl, ?_⟩
      have e : not (decide (Ty = "tuple")) = true := by rw [decide_eq_false ne]; rfl
      exact iteY e (q H (Same.refl H))
    · refine ⟨.ref a, rfl, .ref a, "tuple", rfl, .tup hx, "tuple", "tuple", rfl, rfl, rfl, rfl, _, rfl, iteE (by decide) ?_⟩
      refine ⟨.ref a, rfl, a, xs, rfl, .inr hx, 1, _, rfl, rfl, _, rfl, ite2 (fun e => ?_) (fun e => ?_)⟩
      · have e1 : 1 ≤ xs.length := by
          have := of_decide_eq_true e
          omega
        refine ⟨_, 60, rfl, rfl, _, rfl, ite2 (fun e2 => ?_) (fun e2 => ?_)⟩
        · have e3 : ¬ xs.length ≤ 60 := fun le => by
            have : decide ((xs.length : Int) ≤ 60) = true := decide_eq_true (by omega)
            rw [this] at e2
            cases e2
          have z : picOk xs = false := by
            unfold picOk
            rw [decide_eq_false e3, Bool.and_false, Bool.false_and, Bool.false_and]
          rw [z] at q
          exact q H (Same.refl H)
        · have e3 : xs.length ≤ 60 := by
            have h1 : ¬ ((!decide ((xs.length : Int) ≤ 60)) = true) := e2
            have h2 : decide ((xs.length : Int) ≤ 60) = true := by
              cases hh : decide ((xs.length : Int) ≤ 60) with
              | true => rfl
              | false =>
                rw [hh] at h1
                exact absurd rfl h1
            have := of_decide_eq_true h2
            omega
          have kn' := kn e3
          refine ⟨.ref a, rfl, a, rfl, ⟨_, hx⟩, fun Dd hDd => lc_tup (K := K) (a := a) (xs := xs) (fun i H2 => Same H H2 ∧ H2 Dd = some (.lst ((xs.take i).map fun y => V.bl (rowOk y)))) ⟨same_upd hDd, upd_same⟩ (fun i H2 _ z => sameT z.1 hx) ?_ ?_⟩
          · rintro i y H2 hi ⟨sm, h2⟩
            have hm : y ∈ xs := List.mem_of_getElem? hi
            refine ⟨rfl, y, rfl, y, rfl, (kn' y hm).same sm, _, h2, ?_, ?_, ?_⟩
            · rw [List.length_map, List.length_take]
              exact small1000 (by omega)
            · exact fun b o e => by
                rw [upd_ne (ne_of_none e hDd)]
                exact sm _ _ e
            · rw [upd_same, take_snoc hi, List.map_append]
              rfl
          · rintro H2 ⟨sm, h2⟩
            rw [List.take_length, bls] at h2
            refine ⟨Dd, xs.map rowOk, rfl, SqL.of h2, _, rfl, ?_⟩
            rw [all_map_id]
            cases eall : xs.all rowOk with
            | false =>
              have z : picOk xs = false := by
                unfold picOk
                rw [eall, Bool.and_false, Bool.false_and]
              rw [z] at q
              exact q H2 sm
            | true =>
              have hx2 : SqT K H2 a xs := sameT sm hx
              obtain ⟨x0, r0, rfl⟩ : ∃ x0 r0, xs = x0 :: r0 := by
                cases xs with
                | nil => exact absurd e1 (by decide)
                | cons x0 r0 => exact ⟨x0, r0, rfl⟩
              have isS : ∀ y ∈ x0 :: r0, ∃ z : Str, y = .str z ∧ z.length ≤ sizeLine := fun y hy => by
                have h := List.all_eq_true.mp eall y hy
                cases y with
                | str z => exact ⟨z, rfl, (kn' _ hy).2 z rfl⟩
                | _ => cases h
              obtain ⟨z0, ez0, hz0⟩ := isS x0 List.mem_cons_self
              refine ⟨.ref a, rfl, a, rfl, ⟨_, hx2⟩, fun D2 hD2 => lc_tup (K := K) (a := a) (xs := x0 :: r0) (fun i H3 => Same H2 H3 ∧ H3 D2 = some (.lst (((x0 :: r0).take i).map fun y => V.bl (decide (lenV y = lenV x0))))) ⟨same_upd hD2, upd_same⟩ (fun i H3 _ z => sameT z.1 hx2) ?_ ?_⟩
              · rintro i y H3 hi ⟨sm3, h3⟩
                have hm : y ∈ x0 :: r0 := List.mem_of_getElem? hi
                obtain ⟨zy, ey, hzy⟩ := isS y hm
                refine ⟨rfl, y, rfl, zy, by rw [ey], hzy, .ref a, rfl, a, x0 :: r0, 0, x0, rfl, rfl, sameT sm3 hx2, atI_nat (j := 0) rfl, z0, by rw [ez0], hz0, rfl, _, h3, ?_, ?_, ?_⟩
                · rw [List.length_map, List.length_take]
                  exact small1000 (by omega)
                · exact fun b o e => by
                    rw [upd_ne (ne_of_none e hD2)]
                    exact sm3 _ _ e
                · rw [upd_same, take_snoc hi, List.map_append]
                  have e5 : decide (V.int (zy.length : Int) = V.int (z0.length : Int)) = decide (lenV y = lenV x0) := by
                    rw [ey, ez0]
                    exact Bool.eq_iff_iff.mpr ⟨fun h => decide_eq_true (V.int.inj (of_decide_eq_true h)), fun h => decide_eq_true (congrArg V.int (of_decide_eq_true h))⟩
                  rw [e5]
                  rfl
              · rintro H3 ⟨sm3, h3⟩
                rw [List.take_length, bls] at h3
                refine ⟨D2, _, rfl, SqL.of h3, ?_⟩
                rw [all_map_id]
                have z : picOk (x0 :: r0) = (x0 :: r0).all fun y => decide (lenV y = lenV x0) := by
                  unfold picOk
                  rw [eall, decide_eq_true e1, decide_eq_true e3]
                  rfl
                rw [z] at q
                exact q H3 (sm.trans sm3)
      · have e1 : ¬ 1 ≤ xs.length := fun le => e (decide_eq_true (by omega))
        have z : picOk xs = false := by
          unfold picOk
          rw [decide_eq_false e1, Bool.false_and, Bool.false_and, Bool.false_and]
        rw [z] at q
        exact ⟨_, rfl, q H (Same.refl H)⟩
end
end Dt
namespace L2X
open PySem PySem.Spec PyProof.Rows L2
section
variable {X : Cx}
/-- a tuple once is itself -/
theorem tuple_mul1 (l : Addr) (items : Array Value) (n : Nat) (dd : Option Addr) (sl : Array (Option Value)) (u : Tok) :
    Meets (Builtin.«tuple.__mul__» ⟨[.ref l, .int 1 u], []⟩) (fun _ R s => s.heap.get? l = some { cls := .type "tuple", dict := dd, data := .seq items n, slots := sl } ∧ R (.ok (.ret (Value.ref l))) s) :=
  .of_wp fun prog w A R s h => by
    obtain ⟨hp, g, d, tk, os⟩ := s
    obtain ⟨hl, h⟩ := h
    have f1 := AutoSeq1.idx_int
    wp_walk using wpAny_loadPart' hl
    exact ⟨_, rfl, h⟩
/-- list(text) -/
theorem vals_signs : ∀ (l : List Nat) (its : List Value), l.length = its.length → (∀ (j : Nat) (v : Value), its[j]? = some v → ∃ (c : Nat) (u : Tok), l[j]? = some c ∧ v = Value.str ⟨#[c]⟩ u) → Vals (l.map fun c => V.str ⟨#[c]⟩) its
  | [], [], _, _ => .nil
  | [], _ :: _, h, _ => by cases h
  | _ :: _, [], h, _ => by cases h
  | c :: r, v :: t, h, g => by
    obtain ⟨c', u, e1, e2⟩ := g 0 v rfl
    have e3 : c = c' := Option.some.inj e1
    subst e3
    refine .cons ⟨u, e2⟩ (vals_signs r t (Nat.succ.inj h) fun j w e => ?_)
    obtain ⟨c2, u2, e4, e5⟩ := g (j + 1) w e
    exact ⟨c2, u2, e4, e5⟩
theorem call_listS (hc : X.calm = true) : CallR X (.type "list") (fun xs H Q => ∃ x : Str, xs = [.str x] ∧ x.length ≤ sizeLine ∧ ∀ l, H l = none → Q (.ref l) (upd H l (.lst (x.cps.toList.map fun c => V.str ⟨#[c]⟩)))) := by
  intro pins s σ H xs us Q I r h
  obtain ⟨x, rfl, hx, q⟩ := h
  obtain ⟨u, rfl, t, rfl⟩ := vals1 r
  refine call_list_str (I.ok.hd hc) x t (fun h' tk acc c' keeps got it => ?_) hx
  have hl : x.cps.toList.length = acc.toList.length := by
    rw [Array.length_toList, Array.length_toList, it.1]
  have vs := vals_signs x.cps.toList acc.toList hl fun j v e => by
    obtain ⟨c, u', e1, e2⟩ := it.2 j v (by rw [← Array.getElem?_toList]; exact e)
    exact ⟨c, u', by rw [Array.getElem?_toList]; exact e1, e2⟩
  refine ⟨.ref s.heap.objs.size, _, I.laid (t' := tk) keeps (Nat.le_refl _) ?_, rfl, q _ (I.hok.fresh (Nat.le_refl _))⟩
  refine ⟨?_, acc.toList, c', vs, ?_⟩
  · rw [List.length_map]
    exact hx
  · rw [got]
/-- t * n, n from 1 on -/
def rRepA (K : PySem.W.Frag) : R2 := fun x y H Q => ∃ l k xs, x = .ref l ∧ y = .int k ∧ SqT K H l xs ∧ xs ≠ [] ∧ 1 ≤ k ∧ k ≤ 1000 ∧ xs.length ≤ 1000 ∧ (k = 1 → Q (.ref l) H) ∧ (2 ≤ k → ∀ p, H p = none → Q (.ref p) (upd H p (.tup (List.replicate k.toNat xs).flatten)))
theorem op_repA : OpR X (binaryOp .Mult) (rRepA X.K) := by
  intro pins s σ H x y v u Q I rx ry h
  obtain ⟨l, k, xs, rfl, rfl, hT, hne, h1, h2, hz, q1, q2⟩ := h
  by_cases e1 : k = 1
  · subst e1
    cases rx
    obtain ⟨t, rfl⟩ := ry
    obtain ⟨its, _, ⟨⟨cls, dd, data, sl⟩, got, hc, n, hd⟩, _⟩ := I.tuple hT
    simp only at hc hd
    subst hc hd
    have once := tuple_mul1 l its.toArray n dd sl t
    have back := int_rmul_tuple 1 t l its.toArray n dd sl
    refine wpAny_binaryOp_repeat_ref (T := "tuple") (U := "int") (by decide) ⟨_, got, rfl⟩ (fun s' => typeIs_int s' 1 t)
      noFill_tuple_mul F.fills_int_mul F.slot_int_rmul repeat_tuple F.slot_int_index.lookup ?_
    refine call_meets F.slot_int_rmul (typeIs_int s 1 t) F.entry_int_rmul (F.args_int_rmul_2 _ _) back ⟨got, rfl, ⟨_, got, rfl⟩, ?_⟩
    refine call_meets F.slot_tuple_mul ⟨_, got, rfl⟩ F.entry_tuple_mul (F.args_tuple_mul_2 _ _) once ⟨got, ?_⟩
    exact ⟨.ref l, H, I, rfl, q1 rfl⟩
  · exact op_repT pins s σ H _ _ v u Q I rx ry ⟨l, k, xs, rfl, rfl, hT, hne, by omega, h2, hz, q2 (by omega)⟩
end
end L2X
namespace Dt
open PySem PySem.Spec PyProof.Rows L2 L2X
open SX (S)
/-! ### rows and pictures by their signs -/
theorem cnt_two : ∀ l : List Nat, cnt 35 l + cnt 46 l ≤ l.length ∧ (cnt 35 l + cnt 46 l = l.length ↔ ∀ c ∈ l, c = 35 ∨ c = 46)
  | [] => ⟨by rw [cnt_nil, cnt_nil]; exact Int.le_refl _, by rw [cnt_nil, cnt_nil]; exact ⟨fun _ _ h => (List.not_mem_nil h).elim, fun _ => rfl⟩⟩
  | n :: r => by
    obtain ⟨h1, h2⟩ := cnt_two r
    rw [cnt_cons, cnt_cons, List.length_cons]
    have e : ∀ c ∈ n :: r, (c = 35 ∨ c = 46) ↔ True ∧ (c = 35 ∨ c = 46) := fun c _ => by simp
    by_cases a : n = 35
    · subst a
      rw [if_pos rfl, if_neg (by decide)]
      refine ⟨by omega, ⟨fun z => ?_, fun z => ?_⟩⟩
      · have z2 := h2.mp (by omega)
        intro c hc
        rcases List.mem_cons.mp hc with q | q
        · exact .inl q
        · exact z2 c q
      · have := h2.mpr fun c hc => z c (List.mem_cons_of_mem _ hc)
        omega
    · by_cases b : n = 46
      · subst b
        rw [if_neg (by decide), if_pos rfl]
        refine ⟨by omega, ⟨fun z => ?_, fun z => ?_⟩⟩
        · have z2 := h2.mp (by omega)
          intro c hc
          rcases List.mem_cons.mp hc with q | q
          · exact .inr q
          · exact z2 c q
        · have := h2.mpr fun c hc => z c (List.mem_cons_of_mem _ hc)
          omega
      · rw [if_neg a, if_neg b]
        refine ⟨by omega, ⟨fun z => by omega, fun z => ?_⟩⟩
        rcases z n List.mem_cons_self with q | q
        · exact absurd q a
        · exact absurd q b
theorem rowOk_S (l : List Nat) : rowOk (.str (S l)) = (decide (1 ≤ l.length) && decide (l.length ≤ 120) && decide (∀ c ∈ l, c = 35 ∨ c = 46)) := by
  have e : decide (Txt.count (S l) "#" + Txt.count (S l) "." = ((S l).length : Int)) = decide (∀ c ∈ l, c = 35 ∨ c = 46) := by
    rw [s_hash, s_dot, count_cnt, count_cnt, SX.S_len]
    exact Bool.eq_iff_iff.mpr ⟨fun h => decide_eq_true ((cnt_two l).2.mp (of_decide_eq_true h)), fun h => decide_eq_true ((cnt_two l).2.mpr (of_decide_eq_true h))⟩
  rw [rowOk_str, e, SX.S_len]
theorem rowOk_rv {wide : Nat} {l : List Nat} (h : RowR wide l) (w0 : 1 ≤ wide) (w1 : wide ≤ 120) : rowOk (rv l) = true := by
  unfold rv
  rw [rowOk_S, h.len, decide_eq_true w0, decide_eq_true w1, decide_eq_true h.sg]
  rfl
theorem rowOk_bad {l : List Nat} {c : Nat} (hc : c ∈ l) (h1 : c ≠ 35) (h2 : c ≠ 46) : rowOk (.str (S l)) = false := by
  rw [rowOk_S, decide_eq_false (p := ∀ c ∈ l, c = 35 ∨ c = 46), Bool.and_false]
  intro z
  rcases z c hc with q | q
  · exact h1 q
  · exact h2 q
theorem rowOk_len {l : List Nat} (h : l.length = 0 ∨ 120 < l.length) : rowOk (.str (S l)) = false := by
  rw [rowOk_S]
  rcases h with h | h
  · rw [decide_eq_false (by omega : ¬ 1 ≤ l.length)]
    rfl
  · rw [decide_eq_false (by omega : ¬ l.length ≤ 120), Bool.and_false, Bool.false_and]
theorem lenV_S (l : List Nat) : lenV (.str (S l)) = (l.length : Int) := by
  show ((S l).length : Int) = _
  rw [SX.S_len]
theorem picOk_pic {high wide : Nat} {rs : List (List Nat)} (h : PicR high wide rs) : picOk (rs.map rv) = true := by
  unfold picOk
  have a1 : decide (1 ≤ (rs.map rv).length) = true := decide_eq_true (by rw [List.length_map, h.len]; exact h.h0)
  have a2 : decide ((rs.map rv).length ≤ 60) = true := decide_eq_true (by rw [List.length_map, h.len]; exact h.h1)
  have a3 : (rs.map rv).all rowOk = true := List.all_eq_true.mpr fun y hy => by
    obtain ⟨l, hl, rfl⟩ := List.mem_map.mp hy
    exact rowOk_rv (h.row l hl) h.w0 h.w1
  have len : ∀ y ∈ rs.map rv, lenV y = (wide : Int) := fun y hy => by
    obtain ⟨l, hl, rfl⟩ := List.mem_map.mp hy
    unfold rv
    rw [lenV_S, (h.row l hl).len]
  have a4 : ((rs.map rv).all fun y => decide (lenV y = lenV ((rs.map rv).headD .non))) = true := List.all_eq_true.mpr fun y hy => by
    refine decide_eq_true ?_
    rw [len y hy]
    cases e : rs.map rv with
    | nil =>
      rw [e] at hy
      cases hy
    | cons x r =>
      have z := len x (by rw [e]; exact List.mem_cons_self)
      exact z.symm
  rw [a1, a2, a3, a4]
  rfl
/-- one row put in the place of another: no picture -/
theorem picOk_odd {high wide r : Nat} {rs : List (List Nat)} {one : V} (h : PicR high wide rs) (hr : r < high) (b : rowOk one = false ∨ (2 ≤ high ∧ lenV one ≠ (wide : Int))) :
    picOk ((rs.map rv).take r ++ [one] ++ (rs.map rv).drop (r + 1)) = false := by
  cases e : picOk ((rs.map rv).take r ++ [one] ++ (rs.map rv).drop (r + 1)) with
  | false => rfl
  | true =>
    exfalso
    unfold picOk at e
    rw [Bool.and_eq_true, Bool.and_eq_true, Bool.and_eq_true] at e
    obtain ⟨⟨⟨_, _⟩, e3⟩, e4⟩ := e
    have m1 : one ∈ (rs.map rv).take r ++ [one] ++ (rs.map rv).drop (r + 1) := by simp
    rcases b with b | ⟨b1, b2⟩
    · have z := List.all_eq_true.mp e3 one m1
      rw [b] at z
      cases z
    · have len : ∀ y ∈ rs.map rv, lenV y = (wide : Int) := fun y hy => by
        obtain ⟨l, hl, rfl⟩ := List.mem_map.mp hy
        unfold rv
        rw [lenV_S, (h.row l hl).len]
      obtain ⟨y, m2, hy⟩ : ∃ y, y ∈ (rs.map rv).take r ++ [one] ++ (rs.map rv).drop (r + 1) ∧ y ∈ rs.map rv := by
        have hl : (rs.map rv).length = high := by rw [List.length_map, h.len]
        by_cases hr0 : r = 0
        · subst hr0
          have : 1 < (rs.map rv).length := by omega
          refine ⟨(rs.map rv)[1], ?_, List.getElem_mem _⟩
          refine List.mem_append_right _ ?_
          exact List.mem_of_getElem? (i := 0) (by rw [List.getElem?_drop, List.getElem?_eq_getElem this])
        · have : 0 < (rs.map rv).length := by omega
          refine ⟨(rs.map rv)[0], ?_, List.getElem_mem _⟩
          refine List.mem_append_left _ (List.mem_append_left _ ?_)
          exact List.mem_of_getElem? (i := 0) (by rw [List.getElem?_take, if_pos (by omega), List.getElem?_eq_getElem this])
      have z1 := of_decide_eq_true (List.all_eq_true.mp e4 one m1)
      have z2 := of_decide_eq_true (List.all_eq_true.mp e4 y m2)
      exact b2 (z1.trans (z2.symm.trans (len y hy)))
end Dt
namespace Dt
open PySem PySem.Spec PyProof.Rows L2 L2X
open SX (S)
/-! ### refusals -/
/-- the class NoPicture, as the top has made it, at C -/
structure Tn (K : PySem.W.Frag) (mg : Str → Option Value) (C : Addr) : Prop where
  g : mg "NoPicture" = some (.ref C)
  x : PySem.W.excIn K C [.type "ValueError", .type "Exception", .type "BaseException", .type "object"] "ValueError.__new__" = true
  k : PySem.W.keepIn K (.ref C) = true
  b : PySem.W.subIn K (.ref C) (.type "BaseException") = some true
  t : PySem.W.typeIn K (.ref C) = some (.type "type")
abbrev sWant : Stmt := topS 15
theorem scWant : FnScope ["thing"] ["thing"] (defScope sWant) := ⟨rfl, rfl, rfl, by decide +kernel, rfl, by decide +kernel, by decide +kernel⟩
def spWant (K : PySem.W.Frag) (C : Addr) : Sp := fun vs H Q E => ∃ x b, vs = [x] ∧ Asked K H x b ∧ (b = true → ∀ H', Same H H' → Q .non H') ∧ (b = false → ∀ H', Same H H' → E (.ref C) none H')
section
variable {P : Program} {w : World} {K : PySem.W.Frag} {mg : Str → Option Value} {base : Heap} {C : Addr}
theorem ok_want {f fP : Addr} {fd fdP : FuncData} {k : Nat} (F : Fun K "want_picture" "want_picture" sWant f fd) (N : Tn K mg C) (GP : FnOk P w K mg base CX0 (k + 1) fP fdP ["thing"] (spIsPic K)) (mP : mg "is_picture" = some (.ref fP)) (kP : PySem.W.keepIn K (.ref fP) = true) (bP : Binds K fdP ["thing"] []) :
    FnOk P w K mg base (L2.CX P w) (k + 2) f fd ["thing"] (spWant K C) := by
  refine F.okX scWant (fun vs H Q E h => ?_) (fun cdv A outer s H vs Q E hr h => ?_)
  · obtain ⟨x, b, rfl, _⟩ := h
    rfl
  · obtain ⟨x, b, rfl, ask, q1, q2⟩ := h
    refine ⟨_, pss_one (ps_if (pt_not (pt_val (pe_call GP hr (by rfl) mP kP bP .nil pass0 (pa_cons (pv 0) pa_nil)))) (pss_one (ps_raise rfl (takes_of rfl rfl rfl rfl) (pmk_own PySem.F.excBase_ValueError N.x N.g N.k (raises_own N.b N.t) rfl))) pss_nil), ?_⟩
    refine ⟨x, rfl, x, b, rfl, ask, fun H' sm => ⟨_, rfl, ?_⟩⟩
    cases b with
    | true => exact iteF (q1 rfl H' sm)
    | false => exact iteT (q2 rfl H' sm)
end
end Dt
namespace Dt
open PySem PySem.Spec PyProof.Rows L2 L2X
open SX (S)
theorem pss_never {X : Cx} {st : List Stmt} : PSs X st (fun _ _ _ => False) := ⟨fun _ _ _ _ _ _ h => h.elim⟩
theorem pg_never {X : Cx} {tg : Expr} : PG X tg (fun _ _ _ _ => False) := ⟨fun _ _ _ _ _ _ _ _ _ h => h.elim⟩
abbrev sSize : Stmt := topS 16
theorem scSize : FnScope ["picture"] ["picture"] (defScope sSize) := ⟨rfl, rfl, rfl, by decide +kernel, rfl, by decide +kernel, by decide +kernel⟩
/-- size of a picture, or of what is none -/
def spSize (K : PySem.W.Frag) (C : Addr) : Sp := fun vs H Q E => ∃ x, vs = [x] ∧ ((Asked K H x false ∧ ∀ H', Same H H' → E (.ref C) none H') ∨
  ∃ a xs, x = .ref a ∧ SqT K H a xs ∧ (∀ y ∈ xs, Kn K H y) ∧ picOk xs = true ∧ ∀ p H', Same H H' → H p = none → H' p = some (.tup [.int (xs.length : Int), .int (lenV (xs.headD .non))]) → Q (.ref p) H')
theorem Asked.same {K : PySem.W.Frag} {H H' : Hp} {x : V} {b : Bool} (h : Asked K H x b) (s : Same H H') : Asked K H' x b := by
  rcases h with ⟨T, t, ok, ne, e⟩ | ⟨a, xs, e, h1, h2, e2⟩
  · refine .inl ⟨T, ?_, ok, ne, e⟩
    cases t with
    | non => exact .non
    | bl b => exact .bl b
    | int i => exact .int i
    | str x => exact .str x
    | byt b => exact .byt b
    | lst h => exact .lst (s.seq h)
    | tup h => exact .tup (sameT s h)
    | dK h => exact .dK (s _ _ h)
  · exact .inr ⟨a, xs, e, sameT s h1, fun l y hy => (h2 l y hy).same s, e2⟩
section
variable {P : Program} {w : World} {K : PySem.W.Frag} {mg : Str → Option Value} {base : Heap} {C : Addr}
/-- want_picture, and whoever calls it first -/
structure GW (P : Program) (w : World) (K : PySem.W.Frag) (mg : Str → Option Value) (base : Heap) (C : Addr) (k : Nat) : Prop where
  ex : ∃ f fd, FnOk P w K mg base (L2.CX P w) k f fd ["thing"] (spWant K C) ∧ mg "want_picture" = some (.ref f) ∧ PySem.W.keepIn K (.ref f) = true ∧ Binds K fd ["thing"] []
structure GS (P : Program) (w : World) (K : PySem.W.Frag) (mg : Str → Option Value) (base : Heap) (C : Addr) (k : Nat) : Prop where
  ex : ∃ f fd, FnOk P w K mg base (L2.CX P w) k f fd ["picture"] (spSize K C) ∧ mg "size" = some (.ref f) ∧ PySem.W.keepIn K (.ref f) = true ∧ Binds K fd ["picture"] []
theorem ok_size {f : Addr} {fd : FuncData} {k : Nat} (F : Fun K "size" "size" sSize f fd) (X : Tx mg) (G : GW P w K mg base C (k + 1)) : FnOk P w K mg base (L2.CX P w) (k + 2) f fd ["picture"] (spSize K C) := by
  obtain ⟨fW, fdW, GW, mW, kW, bW⟩ := G.ex
  refine F.okX scSize (fun vs H Q E h => ?_) (fun cdv A outer s H vs Q E hr h => ?_)
  · obtain ⟨x, rfl, _⟩ := h
    rfl
  · obtain ⟨x, rfl, h⟩ := h
    refine ⟨_, pss_cons (ps_expr (pe_callS GW hr (by rfl) mW kW bW (fun σ => passAt (takes_of rfl rfl rfl rfl) σ) (pa_cons (pv 0) pa_nil)))
      (pss_one (ps_ret (pe_tup (pa_cons (pe_callB call_len_seq (by rfl) X.len PySem.boot_len (pa_cons (pv 0) pa_nil)) (pa_cons (pe_callB call_len_str (by rfl) X.len PySem.boot_len (pa_cons (pe_ix (r := rIxT K) ix_tup (pv 0) pe_int (fun _ _ => rfl)) pa_nil)) pa_nil))))), ?_⟩
    rcases h with ⟨ask, q⟩ | ⟨a, xs, rfl, hx, kn, ok, q⟩
    · exact ⟨x, rfl, x, false, rfl, ask, (fun e => nomatch e), fun _ H' sm => q H' sm⟩
    · refine ⟨.ref a, rfl, .ref a, true, rfl, .inr ⟨a, xs, rfl, hx, fun _ => kn, ok.symm⟩, fun _ H' sm => ?_, fun e => nomatch e⟩
      have hx' := sameT sm hx
      unfold picOk at ok
      rw [Bool.and_eq_true, Bool.and_eq_true, Bool.and_eq_true] at ok
      obtain ⟨⟨⟨o1, o2⟩, o3⟩, o4⟩ := ok
      cases xs with
      | nil => exact absurd (of_decide_eq_true o1) (by decide)
      | cons x0 r =>
        have hk := List.all_eq_true.mp o3 x0 List.mem_cons_self
        cases x0 with
        | str z =>
          have hz := (kn _ List.mem_cons_self).2 z rfl
          refine ⟨.ref a, rfl, a, _, rfl, .inr hx', .ref a, rfl, a, _, 0, .str z, rfl, rfl, hx', atI_nat (j := 0) rfl, z, rfl, hz, by show 2 ≤ sizeLine; decide, fun p hp => ?_⟩
          exact q p _ (sm.trans (same_upd hp)) (sm.free hp) upd_same
        | _ => cases hk
end
theorem upd_at2 {H : Hp} {p : Addr} {o : HO} : (upd H p o) p = some o := upd_same
theorem kn_str2 {K : PySem.W.Frag} {H : Hp} {z : Str} (h : z.length ≤ sizeLine) : Kn K H (.str z) := ⟨⟨"str", .str z, rfl⟩, fun y e => by cases e; exact h⟩
theorem kn_rows {K : PySem.W.Frag} {H : Hp} {high wide : Nat} {rs : List (List Nat)} (h : PicR high wide rs) : ∀ y ∈ rs.map rv, Kn K H y := by
  intro y hy
  obtain ⟨x, hx, rfl⟩ := List.mem_map.mp hy
  refine kn_str2 ?_
  show x.length ≤ sizeLine
  have := (h.row x hx).len
  have := h.w1
  exact Nat.le_of_lt (small1000 (by omega))
theorem askPic {K : PySem.W.Frag} {H : Hp} {high wide : Nat} {rs : List (List Nat)} {a : Addr} (h : PicR high wide rs) (e : H a = some (.tup (rs.map rv))) : Asked K H (.ref a) true :=
  .inr ⟨a, _, rfl, SqT.of e, fun _ => kn_rows h, (picOk_pic h).symm⟩
theorem picSize {high wide : Nat} {rs : List (List Nat)} (h : PicR high wide rs) : (((rs.map rv).length : Nat) : Int) = (high : Int) ∧ lenV ((rs.map rv).headD .non) = (wide : Int) := by
  refine ⟨by rw [List.length_map, h.len], ?_⟩
  cases rs with
  | nil =>
    have h1 := h.len
    have h2 := h.h0
    simp at h1
    omega
  | cons l r =>
    have e := (h.row l List.mem_cons_self).len
    show lenV (rv l) = _
    unfold rv
    rw [lenV_S, e]
end Dt
/-! zip of two and enumerate, over any of a list, a tuple, a text -/
namespace L2X
open PySem PySem.Spec PyProof.Rows L2
inductive Src
  | lst (a : Addr)
  | tup (a : Addr)
  | txt (z : Str)
def chars (z : Str) : List V := z.cps.toList.map fun c => V.str ⟨#[c]⟩
/-- what stands in it -/
def Src.has (K : PySem.W.Frag) (H : Hp) : Src → List V → Prop
  | .lst a, xs => SqL K H a xs
  | .tup a, xs => SqT K H a xs
  | .txt z, xs => xs = chars z
def Src.val : Src → V
  | .lst a => .ref a
  | .tup a => .ref a
  | .txt z => .str z
/-- its iterator at its i-th item -/
def Src.it (it : Addr) (i : Nat) (h : Heap) : Src → Prop
  | .lst a => h.IsListIter it a i
  | .tup a => h.IsTupleIter it a i
  | .txt z => ∃ t, h.IsStrIter it (strIterType z) z t i
def Src.off (c : Addr) : Src → Prop
  | .lst a => a ≠ c
  | .tup a => a ≠ c
  | .txt _ => True
theorem Src.it_obj {S : Src} {it : Addr} {i : Nat} {h : Heap} (e : S.it it i h) : ∃ o, h.get? it = some o ∧ ∀ v, o.data ≠ .cell v := by
  cases S with
  | lst a =>
    obtain ⟨o, e1, _, d⟩ := e
    exact ⟨o, e1, fun v q => by rw [d] at q; cases q⟩
  | tup a =>
    obtain ⟨o, e1, _, d⟩ := e
    exact ⟨o, e1, fun v q => by rw [d] at q; cases q⟩
  | txt z =>
    obtain ⟨t, o, e1, _, d⟩ := e
    exact ⟨o, e1, fun v q => by rw [d] at q; cases q⟩
theorem Src.it_at {S : Src} {it : Addr} {i : Nat} {h h' : Heap} (e : S.it it i h) (k : ∀ o, h.get? it = some o → h'.get? it = some o) : S.it it i h' := by
  cases S with
  | lst a => exact Heap.IsListIter.at e k
  | tup a => exact Heap.IsTupleIter.at e k
  | txt z =>
    obtain ⟨t, o, e1, e2, d⟩ := e
    exact ⟨t, o, k _ e1, e2, d⟩
section
variable {X : Cx} {pins : List (Addr × Obj)} {σ : L2.St} {H : Hp} {s : Shared}
theorem Src.inj {S : Src} {xs ys : List V} (I : Inv X pins σ H s) (h : S.has X.K H xs) (h' : S.has X.K H ys) : xs = ys := by
  cases S with
  | lst a => exact I.list_inj h h'
  | tup a => exact I.tuple_inj h h'
  | txt z => exact Eq.trans h (Eq.symm h')
/-- what its iterator draws, now -/
theorem Src.draws {S : Src} {xs : List V} {it : Addr} {i : Nat} {A : Around} (I : Inv X pins σ H s) (hh : A.handled = none) (h : S.has X.K H xs) (st : S.it it i s.heap) (off : S.off it) :
    ∃ (fp : List Addr) (P : Nat → Value → Prop) (St : Nat → Heap → Prop), Draws X.prog X.w A it fp xs.length P St ∧ St i s.heap ∧ it ∈ fp ∧ (∀ c, c ≠ it → S.off c → c ∉ fp) ∧ (∀ j v, P j v → ∃ x, xs[j]? = some x ∧ RelV x v) ∧ (∀ j h, St j h → S.it it j h) := by
  cases S with
  | lst a =>
    obtain ⟨its, rv, p, _⟩ := I.list h
    have el : its.toArray.size = xs.length := by rw [rv.length]; simp
    rw [← el]
    refine ⟨[it, a], _, _, Draws.list hh it a off its.toArray, ⟨st, p.isList⟩, by simp, fun c hc ho hm => ?_, fun j v hv => ?_, fun j h e => e.1⟩
    · have e' : c = it ∨ c = a := by simpa using hm
      rcases e' with e' | e'
      · exact hc e'
      · exact ho e'.symm
    · have hv' : its[j]? = some v := by simpa using hv
      have hj : j < xs.length := by
        rw [← el]
        have := (List.getElem?_eq_some_iff.mp hv').1
        simpa using this
      obtain ⟨u, hu, ru⟩ := rv.get (List.getElem?_eq_getElem hj)
      rw [hv'] at hu
      cases hu
      exact ⟨_, List.getElem?_eq_getElem hj, ru⟩
  | tup a =>
    obtain ⟨its, rv, p, _⟩ := I.tuple h
    have el : its.toArray.size = xs.length := by rw [rv.length]; simp
    rw [← el]
    refine ⟨[it, a], _, _, Draws.tuple hh it a off its.toArray, ⟨st, p⟩, by simp, fun c hc ho hm => ?_, fun j v hv => ?_, fun j h e => e.1⟩
    · have e' : c = it ∨ c = a := by simpa using hm
      rcases e' with e' | e'
      · exact hc e'
      · exact ho e'.symm
    · have hv' : its[j]? = some v := by simpa using hv
      have hj : j < xs.length := by
        rw [← el]
        have := (List.getElem?_eq_some_iff.mp hv').1
        simpa using this
      obtain ⟨u, hu, ru⟩ := rv.get (List.getElem?_eq_getElem hj)
      rw [hv'] at hu
      cases hu
      exact ⟨_, List.getElem?_eq_getElem hj, ru⟩
  | txt z =>
    obtain ⟨t, st⟩ := st
    have hx : xs = chars z := h
    have el : z.cps.size = xs.length := by rw [hx]; simp [chars]
    rw [← el]
    refine ⟨[it], _, _, Draws.text hh it z t, st, by simp, fun c hc _ hm => hc (by simpa using hm), fun j v hv => ?_, fun j h e => ⟨t, e⟩⟩
    obtain ⟨c, u, e1, rfl⟩ := hv
    refine ⟨.str ⟨#[c]⟩, ?_, _, rfl⟩
    rw [hx]
    unfold chars
    rw [List.getElem?_map, Array.getElem?_toList, e1]
    rfl
/-- two things at each turn, in new pairs -/
def ItzG (K : PySem.W.Frag) (A B : Src) : It :=
  ⟨fun i H => ∃ (xs ys : List V) (x y : V), A.has K H xs ∧ B.has K H ys ∧ xs[i]? = some x ∧ ys[i]? = some y,
    fun i H v H' => ∃ T x y, v = .ref T ∧ H T = none ∧ H' = upd H T (.tup [x, y]) ∧ (∀ xs, A.has K H xs → xs[i]? = some x) ∧ ∀ ys, B.has K H ys → ys[i]? = some y,
    fun i H => ∃ xs ys : List V, A.has K H xs ∧ B.has K H ys ∧ (xs.length = i ∧ i ≤ ys.length ∨ ys.length = i ∧ i ≤ xs.length)⟩
structure Apart5 (A B : Src) (z TI TO i1 i2 : Addr) : Prop where
  TIz : TI ≠ z
  TOz : TO ≠ z
  i1z : i1 ≠ z
  i2z : i2 ≠ z
  TITO : TI ≠ TO
  TIi1 : TI ≠ i1
  TIi2 : TI ≠ i2
  TOi1 : TO ≠ i1
  TOi2 : TO ≠ i2
  i12 : i1 ≠ i2
  az : A.off z
  aT : A.off TO
  a1 : A.off i1
  a2 : A.off i2
  bz : B.off z
  bT : B.off TO
  b1 : B.off i1
  b2 : B.off i2
theorem turn_zipG {P : Program} {w : World} {K : PySem.W.Frag} {elts : List Expr} {kk : Nat} {tpos : Pos} {A B : Src} {z TI TO i1 i2 : Addr} (D : Apart5 A B z TI TO i1 i2) :
    Turn P w K (.Tuple elts kk tpos) (ItzG K A B) [z, TI, TO, i1, i2] z (fun i h => IsZip h z TI TO .none ∧ IsTupOf2 h TI (.ref i1) (.ref i2) ∧ (∃ x y, IsTupOf2 h TO x y) ∧ A.it i1 i h ∧ B.it i2 i h) where
  mem := by simp
  obj := fun i h st c hc => by
    obtain ⟨hz, hTI, ⟨x, y, hTO⟩, h1, h2⟩ := st
    have e' : c = z ∨ c = TI ∨ c = TO ∨ c = i1 ∨ c = i2 := by simpa using hc
    rcases e' with q | q | q | q | q
    · rw [q]; exact ⟨_, hz, fun v q => nomatch q⟩
    · rw [q]; exact ⟨_, hTI, fun v q => nomatch q⟩
    · rw [q]; exact ⟨_, hTO, fun v q => nomatch q⟩
    · rw [q]; exact Src.it_obj h1
    · rw [q]; exact Src.it_obj h2
  keep := fun i h h' st k => by
    obtain ⟨hz, hTI, ⟨x, y, hTO⟩, h1, h2⟩ := st
    exact ⟨k z (by simp) _ hz, k TI (by simp) _ hTI, ⟨x, y, k TO (by simp) _ hTO⟩, Src.it_at h1 fun o q => k i1 (by simp) o q, Src.it_at h2 fun o q => k i2 (by simp) o q⟩
  item := by
    intro X hP hw hK hc i pins s σ H E I hf st hg
    subst hP hw hK
    obtain ⟨hz, hTI, ⟨x0, y0, hTO⟩, h1, h2⟩ := st
    obtain ⟨xs, ys, x, y, hqx, hqy, hx, hy⟩ := hg
    obtain ⟨f1, P1, S1, D1, s1, m1, o1, p1, t1⟩ := Src.draws (A := X.A.in1) I (I.ok.hd hc) hqx h1 D.a1
    obtain ⟨f2, P2, S2, D2, s2, m2, o2, p2, t2⟩ := Src.draws (A := X.A.in1) I (I.ok.hd hc) hqy h2 D.b2
    have sep : ZipSep2 z TI TO i1 i2 f1 f2 := ⟨D.TIz, D.TOz, D.TITO, D.TIi1, m1, o1 _ D.i1z.symm D.az, o1 _ D.TOi1 D.aT, D.TIi2, m2, o2 _ D.i2z.symm D.bz, o2 _ D.TOi2 D.bT, o2 _ D.i12 D.b1, o1 _ D.i12.symm D.a2⟩
    have hzl : z < s.heap.objs.size := Heap.lt_size hz
    refine wpAny_pyNext_zipD2_item sep D1 D2 hz hTI hTO s1 s2 (List.getElem?_eq_some_iff.mp hx).1 (List.getElem?_eq_some_iff.mp hy).1 fun u u2 h' tk q1 q2 z' TO' h1' h2' hT hsz hk => ?_
    obtain ⟨x', ex, ru⟩ := p1 _ _ q1
    rw [hx] at ex
    cases ex
    obtain ⟨y', ey, ru2⟩ := p2 _ _ q2
    rw [hy] at ey
    cases ey
    refine ⟨_, rfl, wpAny_letOwnedTupleGo_zip (s := { s with heap := h', toks := tk }) z' fun h'' z'' sb => ?_⟩
    have hT2 : h''.get? s.heap.objs.size = some { cls := .type "tuple", data := .seq #[u, u2] } := (sb.2 _ (Nat.ne_of_gt hzl)).trans hT
    have new : ObjOk X.prog X.w (upd H s.heap.objs.size (.tup [x, y])) h'' s.heap.objs.size (.tup [x, y]) :=
      ⟨by show 2 ≤ sizeLine; decide, [u, u2], .cons ru (.cons ru2 .nil), ⟨_, hT2, rfl, _, rfl⟩⟩
    have I1 : Inv X pins σ (upd H s.heap.objs.size (.tup [x, y])) { s with heap := h'', toks := tk } :=
      I.turnedNew (t' := tk) (ch := [z, TI, TO, i1, i2]) (fun c o hb q => (sb.2 c (fun q' => hb (by simp [q']))).trans (hk c o (fun q' => hb (by simp [q'])) (fun q' => hb (by simp [q'])) (fun q' => hb (by simp [q'])) (fun q' => hb (by simp [q'])) q)) hf (Nat.le_refl _) new
    refine ⟨.ref s.heap.objs.size, _, I1, rfl, ⟨_, x, y, rfl, I.hok.fresh (Nat.le_refl _), rfl, fun l hl => by rw [Src.inj I hl hqx]; exact hx, fun l hl => by rw [Src.inj I hl hqy]; exact hy⟩, ⟨z'', ?_, ⟨u, u2, ?_⟩, ?_, ?_⟩, fun c hcm => ?_⟩
    · exact (sb.2 _ D.TIz).trans (hk _ _ D.TIz D.TITO D.TIi1 D.TIi2 hTI)
    · exact (sb.2 _ D.TOz).trans TO'
    · exact Src.it_at (t1 _ _ h1') fun o q => (sb.2 _ D.i1z).trans q
    · exact Src.it_at (t2 _ _ h2') fun o q => (sb.2 _ D.i2z).trans q
    · have hlt : c < s.heap.objs.size := by
        have e' : c = z ∨ c = TI ∨ c = TO ∨ c = i1 ∨ c = i2 := by simpa using hcm
        rcases e' with q | q | q | q | q
        · rw [q]; exact hzl
        · rw [q]; exact Heap.lt_size hTI
        · rw [q]; exact Heap.lt_size hTO
        · rw [q]; obtain ⟨_, e1, _⟩ := Src.it_obj h1; exact Heap.lt_size e1
        · rw [q]; obtain ⟨_, e2, _⟩ := Src.it_obj h2; exact Heap.lt_size e2
      rw [upd_ne (Nat.ne_of_lt hlt)]
      exact (hf c hcm).1
  done := by
    intro X hP hw hK hc i pins s σ H E I hf st hg
    subst hP hw hK
    obtain ⟨hz, hTI, ⟨x0, y0, hTO⟩, h1, h2⟩ := st
    obtain ⟨xs, ys, hqx, hqy, hend⟩ := hg
    obtain ⟨f1, P1, S1, D1, s1, m1, o1, p1, t1⟩ := Src.draws (A := X.A.in1) I (I.ok.hd hc) hqx h1 D.a1
    obtain ⟨f2, P2, S2, D2, s2, m2, o2, p2, t2⟩ := Src.draws (A := X.A.in1) I (I.ok.hd hc) hqy h2 D.b2
    have sep : ZipSep2 z TI TO i1 i2 f1 f2 := ⟨D.TIz, D.TOz, D.TITO, D.TIi1, m1, o1 _ D.i1z.symm D.az, o1 _ D.TOi1 D.aT, D.TIi2, m2, o2 _ D.i2z.symm D.bz, o2 _ D.TOi2 D.bT, o2 _ D.i12 D.b1, o1 _ D.i12.symm D.a2⟩
    exact wpAny_pyNext_zipD2_end sep D1 D2 hz hTI hTO s1 s2 (by omega) (by omega) (by omega) fun h' tk hk => ⟨rfl, I.turnedL (t' := tk) (ch := [z, TI, TO, i1, i2]) (fun c o hb q =>
      hk c o (fun q' => hb (by simp [q'])) (fun q' => hb (by simp [q'])) (fun q' => hb (by simp [q'])) (fun q' => hb (by simp [q'])) q) hf⟩
  self := fun A i s Q E st h => wpAny_pyIter_zip st.1 h
/-- how a source begins -/
theorem Src.begins {S : Src} {xs : List V} {u : Value} (I : Inv X pins σ H s) (h : S.has X.K H xs) (r : RelV S.val u) : ∃ (o : Obj) (Hh : Heap → Prop), Begins u o Hh ∧ Hh s.heap ∧ (∀ (h' : Heap) (it : Addr), h'.get? it = some o → S.it it 0 h') ∧ ∀ c, s.heap.objs.size ≤ c → S.off c := by
  cases S with
  | lst a =>
    cases r
    obtain ⟨its, rv, p, _⟩ := I.list h
    exact ⟨_, _, begins_list a its.toArray, p.isList, fun h' it e => ⟨_, e, rfl, rfl⟩, fun c hc => Nat.ne_of_lt (Nat.lt_of_lt_of_le p.lt hc)⟩
  | tup a =>
    cases r
    obtain ⟨its, rv, p, _⟩ := I.tuple h
    obtain ⟨o, e, _⟩ := id p
    exact ⟨_, _, begins_tuple a its.toArray, p, fun h' it e => ⟨_, e, rfl, rfl⟩, fun c hc => Nat.ne_of_lt (Nat.lt_of_lt_of_le (Heap.lt_size e) hc)⟩
  | txt z =>
    obtain ⟨t, rfl⟩ := r
    exact ⟨_, _, begins_text z t, trivial, fun h' it e => ⟨t, _, e, rfl, rfl⟩, fun _ _ => trivial⟩
theorem ap_ne (N a b : Nat) (h : a ≠ b) : N + a ≠ N + b := by omega
theorem apart5_new {A B : Src} {N : Nat} (f1 : ∀ c, N ≤ c → A.off c) (f2 : ∀ c, N ≤ c → B.off c) : Apart5 A B (N + 4) (N + 2) (N + 3) N (N + 1) :=
  ⟨ap_ne N 2 4 (by decide), ap_ne N 3 4 (by decide), ap_ne N 0 4 (by decide), ap_ne N 1 4 (by decide), ap_ne N 2 3 (by decide), ap_ne N 2 0 (by decide), ap_ne N 2 1 (by decide), ap_ne N 3 0 (by decide), ap_ne N 3 1 (by decide), ap_ne N 0 1 (by decide),
    f1 _ (Nat.le_add_right _ _), f1 _ (Nat.le_add_right _ _), f1 _ (Nat.le_refl _), f1 _ (Nat.le_add_right _ _), f2 _ (Nat.le_add_right _ _), f2 _ (Nat.le_add_right _ _), f2 _ (Nat.le_refl _), f2 _ (Nat.le_add_right _ _)⟩
def iZipG (K : PySem.W.Frag) (ta : TA) : TI := fun σ H R => ta σ H fun vs H1 => ∃ (A B : Src) (xs ys : List V), vs = [A.val, B.val] ∧ A.has K H1 xs ∧ B.has K H1 ys ∧ R (ItzG K A B) H1
theorem pi_zipG {X : Cx} {e e2 : Expr} {ta : TA} {p pos tpos : Pos} {elts : List Expr} {kk : Nat} (hg : Gl X "zip") (hm : X.mg "zip" = none) (ha : PA X [e, e2] ta)
    (hs : starEach [e, e2] X.env = (false, eval e X.env) :: starEach [e2] X.env := by rfl) (hpl : (backTo pos (starEach [e2] X.env)).any (·.1) = false := by rfl) :
    PI X (.Tuple elts kk tpos) (.Call (.Name "zip" p) [e, e2] [] pos) (iZipG X.K ta) := by
  refine ⟨fun pins s σ H R I h => ?_⟩
  refine Call_ (ld_blt I hg hm PyProof.Rows.boot_zip (PyProof.Rows.callWith_type1 (thn (ha.run pos pins s σ H _ I h) fun us s1 ⟨vs, H1, I1, r1, q1⟩ => ?_) hs hpl))
  obtain ⟨A, B, xs, ys, ex, ha1, hb1, q⟩ := q1
  subst ex
  cases r1 with
  | cons r rr =>
    cases rr with
    | cons r' rr =>
      cases rr
      obtain ⟨o1, G1, B1, g1, n1, f1⟩ := Src.begins I1 ha1 r
      obtain ⟨o2, G2, B2, g2, n2, f2⟩ := Src.begins I1 hb1 r'
      refine zip_begins2 B1 B2 g1 g2 fun h' hz hTI hTO e1 e2 hsz hk => wpAny_pyIter_zip hz ?_
      have I2 : Inv X pins σ H1 { s1 with heap := h' } := I1.kept (t' := s1.toks) hk
      have ap : Apart5 A B (s1.heap.objs.size + 4) (s1.heap.objs.size + 2) (s1.heap.objs.size + 3) s1.heap.objs.size (s1.heap.objs.size + 1) :=
        apart5_new f1 f2
      refine ⟨s1.heap.objs.size + 4, [s1.heap.objs.size + 4, s1.heap.objs.size + 2, s1.heap.objs.size + 3, s1.heap.objs.size, s1.heap.objs.size + 1], _, _, H1, rfl, I2, turn_zipG ap, ⟨hz, hTI, ⟨_, _, hTO⟩, n1 _ _ e1, n2 _ _ e2⟩, fun c hcm => ?_, q⟩
      have e' : c = s1.heap.objs.size + 4 ∨ c = s1.heap.objs.size + 2 ∨ c = s1.heap.objs.size + 3 ∨ c = s1.heap.objs.size ∨ c = s1.heap.objs.size + 1 := by simpa using hcm
      have hle : s1.heap.objs.size ≤ c := by
        rcases e' with z | z | z | z | z
        · rw [z]; exact Nat.le_add_right _ _
        · rw [z]; exact Nat.le_add_right _ _
        · rw [z]; exact Nat.le_add_right _ _
        · rw [z]; exact Nat.le_refl _
        · rw [z]; exact Nat.le_add_right _ _
      exact I1.fpOk hle (I1.hok.fresh hle)
/-! ### enumerate -/
def IteG (K : PySem.W.Frag) (A : Src) : It :=
  ⟨fun i H => ∃ (xs : List V) (x : V), A.has K H xs ∧ xs[i]? = some x, fun i H v H' => ∃ T x, v = .ref T ∧ H T = none ∧ H' = upd H T (.tup [.int (i : Nat), x]) ∧ ∀ xs, A.has K H xs → xs[i]? = some x, fun i H => ∃ xs : List V, A.has K H xs ∧ xs.length = i⟩
theorem turn_enumG {P : Program} {w : World} {K : PySem.W.Frag} {elts : List Expr} {kk : Nat} {tpos : Pos} {A : Src} {e it : Addr} (hne : e ≠ it) (oe : A.off e) (oi : A.off it) :
    Turn P w K (.Tuple elts kk tpos) (IteG K A) [e, it] e (fun i h => (∃ old, IsEnum h e it ((i : Nat) : Int) old) ∧ A.it it i h) where
  mem := by simp
  obj := fun i h st b hb => by
    obtain ⟨⟨old, he⟩, hi⟩ := st
    have e' : b = e ∨ b = it := by simpa using hb
    rcases e' with z | z
    · rw [z]; exact ⟨_, he, fun v q => nomatch q⟩
    · rw [z]; exact Src.it_obj hi
  keep := fun i h h' st k => let ⟨⟨old, he⟩, hi⟩ := st; ⟨⟨old, k e (by simp) _ he⟩, Src.it_at hi fun o q => k it (by simp) o q⟩
  item := by
    intro X hP hw hK hc i pins s σ H E I hf st hg
    subst hP hw hK
    obtain ⟨⟨old, he⟩, hit⟩ := st
    obtain ⟨xs, x, hq, hx⟩ := hg
    obtain ⟨f1, P1, S1, D1, s1, m1, o1, p1, t1⟩ := Src.draws (A := X.A.in1) I (I.ok.hd hc) hq hit oi
    have hel : e < s.heap.objs.size := Heap.lt_size he
    have hil : it < s.heap.objs.size := by obtain ⟨_, q, _⟩ := Src.it_obj hit; exact Heap.lt_size q
    refine wpAny_pyNext_enum_itemD D1 he s1 (List.getElem?_eq_some_iff.mp hx).1 hne (o1 _ hne oe) fun u h' tk q1 ho hit' hT hsz hk => ?_
    obtain ⟨x', ex, ru⟩ := p1 _ _ q1
    rw [hx] at ex
    cases ex
    refine ⟨_, rfl, wpAny_letOwnedTupleGo_enum (s := { s with heap := h', toks := tk + 1 }) ho fun h'' he' sb => ?_⟩
    have hT2 : h''.get? s.heap.objs.size = some { cls := .type "tuple", data := .seq #[.int i tk, u] } := (sb.2 _ (Nat.ne_of_gt hel)).trans hT
    have new : ObjOk X.prog X.w (upd H s.heap.objs.size (.tup [.int (i : Nat), x])) h'' s.heap.objs.size (.tup [.int (i : Nat), x]) :=
      ⟨by show 2 ≤ sizeLine; decide, [.int i tk, u], .cons ⟨_, rfl⟩ (.cons ru .nil), ⟨_, hT2, rfl, _, rfl⟩⟩
    have I1 : Inv X pins σ (upd H s.heap.objs.size (.tup [.int (i : Nat), x])) { s with heap := h'', toks := tk + 1 } :=
      I.turnedNew (t' := tk + 1) (ch := [e, it]) (fun b ob hb q => (sb.2 b (fun z => hb (by simp [z]))).trans (hk b ob (fun z => hb (by simp [z])) (fun z => hb (by simp [z])) q)) hf (Nat.le_refl _) new
    refine ⟨.ref s.heap.objs.size, _, I1, rfl, ⟨_, x, rfl, I.hok.fresh (Nat.le_refl _), rfl, fun ys hy => by rw [Src.inj I hy hq]; exact hx⟩, ⟨⟨u, ?_⟩, Src.it_at (t1 _ _ hit') fun o q => (sb.2 it (Ne.symm hne)).trans q⟩, fun b hb => ?_⟩
    · have e1 : ((i + 1 : Nat) : Int) = (i : Int) + 1 := by omega
      rw [e1]; exact he'
    · have hb' : b < s.heap.objs.size := by
        have e' : b = e ∨ b = it := by simpa using hb
        rcases e' with z | z
        · rw [z]; exact hel
        · rw [z]; exact hil
      rw [upd_ne (Nat.ne_of_lt hb')]
      exact (hf b hb).1
  done := by
    intro X hP hw hK hc i pins s σ H E I hf st hg
    subst hP hw hK
    obtain ⟨⟨old, he⟩, hit⟩ := st
    obtain ⟨xs, hq, hx⟩ := hg
    subst hx
    obtain ⟨f1, P1, S1, D1, s1, m1, o1, p1, t1⟩ := Src.draws (A := X.A.in1) I (I.ok.hd hc) hq hit oi
    obtain ⟨f0, f1', f2, f3, f4, f5⟩ := hf it (by simp)
    exact wpAny_pyNext_enum_endD D1 he s1 fun h' eb => ⟨rfl, I.turned (t' := s.toks) (fun b o hb q => eb b o hb q) f0 f1' f3 f4 f5⟩
  self := fun A i s Q E st h => let ⟨⟨_, he⟩, _⟩ := st; wpAny_pyIter_enum he h
theorem meets_enumerate_new1B {v : Value} {o : Obj} {H : Heap → Prop} (B : Begins v o H) :
    Meets (Builtin.«enumerate.__new__» ⟨[.type "enumerate", v], []⟩) (fun _ R s => H s.heap ∧
      R (.ok (.ret (.ref (s.heap.push o).objs.size))) { s with heap := (s.heap.push o).push { cls := .type "enumerate", data := .fields #[.none, .bool false, .ref s.heap.objs.size, rawInt 0, .none, .none] } }) :=
  .of_wp fun prog w A R s h => by
    obtain ⟨hp, g, d, tk, os⟩ := s; obtain ⟨h1, h⟩ := h
    have hsub := sub_enumerate
    have q1 : ∀ {A' : Around} {E : Value → Shared → Prop} {Q : Value → Shared → Prop}, Q (.ref hp.objs.size) ⟨hp.push o, g, d, tk, os⟩ → wpAny (model prog w) A' (pyIter v) Q E ⟨hp, g, d, tk, os⟩ :=
      fun q => B.iter prog w _ _ ⟨hp, g, d, tk, os⟩ _ h1 q
    wp_walk
    refine wpAny_stack_any fun st => wpAny_pure ?_
    split
    · rename_i c _ _ _ _ _
      cases (c == Value.type "enumerate")
      · wp_walk using q1
        exact ⟨_, rfl, h⟩
      · wp_walk using q1
        exact ⟨_, rfl, h⟩
    · wp_walk using q1
      exact ⟨_, rfl, h⟩
theorem enum_begins1 {prog : Program} {w : World} {A : Around} {E : Value → Shared → Prop} {s : Shared} {v : Value} {o : Obj} {H : Heap → Prop} {Q : Value → Shared → Prop} (B : Begins v o H) (h1 : H s.heap)
    (h : ∀ h', IsEnum h' (s.heap.objs.size + 1) s.heap.objs.size 0 .none → h'.get? s.heap.objs.size = some o → h'.objs.size = s.heap.objs.size + 2 →
      (∀ b o, s.heap.get? b = some o → h'.get? b = some o) → Q (.ref (s.heap.objs.size + 1)) { s with heap := h' }) :
    wpAny (model prog w) A (call (.type "enumerate") [v]) Q E s := by
  refine callType_new F.called_enumerate (by decide) (F.typeCall_enumerate_1 _) (F.newCall_enumerate_1 _) (fun obj => F.args_object_init_2 obj _) F.entry_enumerate_new
    (meets_enumerate_new1B B) ⟨h1, ?_⟩
  have hz : (s.heap.push o).objs.size = s.heap.objs.size + 1 := Heap.size_push ..
  show _ ∧ _
  rw [hz]
  have he : IsEnum ((s.heap.push o).push { cls := .type "enumerate", data := .fields #[.none, .bool false, .ref s.heap.objs.size, rawInt 0, .none, .none] }) (s.heap.objs.size + 1) s.heap.objs.size 0 .none := by
    have := Heap.get?_push_size (s.heap.push o) (o := { cls := .type "enumerate", data := .fields #[.none, .bool false, .ref s.heap.objs.size, rawInt 0, .none, .none] }) rfl
    rw [hz] at this
    exact this
  exact ⟨⟨_, he, rfl⟩, h _ he (Heap.get?_push_of_some _ (Heap.get?_push_size _ B.free)) (by rw [Heap.size_push, hz]) fun b o x => Heap.get?_push_of_some _ (Heap.get?_push_of_some _ x)⟩
def iEnumG (K : PySem.W.Frag) (ta : TA) : TI := fun σ H R => ta σ H fun vs H1 => ∃ (A : Src) (xs : List V), vs = [A.val] ∧ A.has K H1 xs ∧ R (IteG K A) H1
theorem pi_enumG {X : Cx} {e : Expr} {ta : TA} {p pos tpos : Pos} {elts : List Expr} {kk : Nat} (hg : Gl X "enumerate") (hm : X.mg "enumerate" = none) (ha : PA X [e] ta) (hs : starEach [e] X.env = [(false, eval e X.env)] := by rfl) :
    PI X (.Tuple elts kk tpos) (.Call (.Name "enumerate" p) [e] [] pos) (iEnumG X.K ta) := by
  refine ⟨fun pins s σ H R I h => ?_⟩
  refine Call_ (ld_blt I hg hm boot_enumerate (PyProof.Rows.callWith_type1 (thn (ha.run pos pins s σ H _ I h) fun us s1 ⟨vs, H1, I1, r1, q1⟩ => ?_) hs rfl))
  obtain ⟨A, xs, ex, hq, q⟩ := q1
  subst ex
  cases r1 with
  | cons r rr =>
    cases rr
    obtain ⟨o1, G1, B1, g1, n1, f1⟩ := Src.begins I1 hq r
    refine enum_begins1 B1 g1 fun h' he hit hsz hk => wpAny_pyIter_enum he ?_
    have I2 : Inv X pins σ H1 { s1 with heap := h' } := I1.kept (t' := s1.toks) hk
    refine ⟨s1.heap.objs.size + 1, [s1.heap.objs.size + 1, s1.heap.objs.size], _, _, H1, rfl, I2, turn_enumG (Nat.succ_ne_self _) (f1 _ (Nat.le_add_right _ _)) (f1 _ (Nat.le_refl _)), ⟨⟨.none, he⟩, n1 _ _ hit⟩, fun b hb => ?_, q⟩
    have e' : b = s1.heap.objs.size + 1 ∨ b = s1.heap.objs.size := by simpa using hb
    have hle : s1.heap.objs.size ≤ b := by
      rcases e' with z | z
      · rw [z]; exact Nat.le_add_right _ _
      · rw [z]; exact Nat.le_refl _
    exact I1.fpOk hle (I1.hok.fresh hle)
end
end L2X
/-! comprehensions and loops over zip and enumerate of anything -/
namespace L2X
open PySem PySem.Spec PyProof.Rows L2
theorem lc_zipG {K : PySem.W.Frag} {A B : Src} {xs ys : List V} {g : TG} {tt : TT} {te : TE} {vs : List Nat} {σ : L2.St} {H1 : Hp} {D : Addr} {Qd : Hp → Prop} (hn : xs.length = ys.length) (Pv : Nat → Hp → Prop) (h0 : Pv 0 (upd H1 D (.lst []))) (hl : ∀ i H, i ≤ xs.length → Pv i H → A.has K H xs ∧ B.has K H ys)
    (hs : ∀ i x y H T, xs[i]? = some x → ys[i]? = some y → Pv i H → H T = none → g (.ref T) (wipe σ vs) (upd H T (.tup [x, y])) fun σ2 H2 => wipe σ2 vs = wipe σ vs ∧ tt σ2 H2 fun b H3 =>
      if b = true then te σ2 H3 fun z H4 => ∃ acc, H4 D = some (.lst acc) ∧ acc.length < sizeLine ∧ Pv (i + 1) (upd H4 D (.lst (acc ++ [z]))) else Pv (i + 1) H3) (hd : ∀ H, Pv xs.length H → Qd H) :
    ∃ W : Nat → Nat → Hp → Prop, (∃ m, W 0 m (upd H1 D (.lst []))) ∧ ∀ i m H, W i m H →
      ((ItzG K A B).stop i H ∧ Qd H) ∨ ((ItzG K A B).go i H ∧ ∃ Nx : Hp → Prop, (∀ H', Nx H' → ∃ m', m' < m ∧ W (i + 1) m' H') ∧ ∀ x H', (ItzG K A B).yld i H x H' → g x (wipe σ vs) H' fun σ2 H2 => wipe σ2 vs = wipe σ vs ∧ tt σ2 H2 fun b H3 =>
        if b = true then te σ2 H3 fun y H4 => ∃ acc, H4 D = some (.lst acc) ∧ acc.length < sizeLine ∧ Nx (upd H4 D (.lst (acc ++ [y]))) else Nx H3) := by
  refine ⟨fun i m H => m = xs.length - i ∧ i ≤ xs.length ∧ Pv i H, ⟨xs.length, by simp, Nat.zero_le _, h0⟩, ?_⟩
  rintro i m H ⟨rfl, hi, p⟩
  obtain ⟨qx, qy⟩ := hl i H hi p
  by_cases hlt : i < xs.length
  · have hlt2 : i < ys.length := by omega
    have ex : xs[i]? = some xs[i] := List.getElem?_eq_getElem hlt
    have ey : ys[i]? = some ys[i] := List.getElem?_eq_getElem hlt2
    refine .inr ⟨⟨xs, ys, _, _, qx, qy, ex, ey⟩, Pv (i + 1), fun H' p' => ⟨xs.length - (i + 1), by omega, rfl, hlt, p'⟩, fun x H' y => ?_⟩
    obtain ⟨T, u, v, rfl, nT, rfl, z1, z2⟩ := y
    exact hs i u v H T (z1 xs qx) (z2 ys qy) p nT
  · have e : i = xs.length := by omega
    subst e
    exact .inl ⟨⟨xs, ys, qx, qy, .inl ⟨rfl, by omega⟩⟩, hd H p⟩
theorem lc_enumG {K : PySem.W.Frag} {A : Src} {xs : List V} {g : TG} {tt : TT} {te : TE} {vs : List Nat} {σ : L2.St} {H1 : Hp} {D : Addr} {Qd : Hp → Prop} (Pv : Nat → Hp → Prop) (h0 : Pv 0 (upd H1 D (.lst []))) (hl : ∀ i H, i ≤ xs.length → Pv i H → A.has K H xs)
    (hs : ∀ i x H T, xs[i]? = some x → Pv i H → H T = none → g (.ref T) (wipe σ vs) (upd H T (.tup [.int (i : Nat), x])) fun σ2 H2 => wipe σ2 vs = wipe σ vs ∧ tt σ2 H2 fun b H3 =>
      if b = true then te σ2 H3 fun z H4 => ∃ acc, H4 D = some (.lst acc) ∧ acc.length < sizeLine ∧ Pv (i + 1) (upd H4 D (.lst (acc ++ [z]))) else Pv (i + 1) H3) (hd : ∀ H, Pv xs.length H → Qd H) :
    ∃ W : Nat → Nat → Hp → Prop, (∃ m, W 0 m (upd H1 D (.lst []))) ∧ ∀ i m H, W i m H →
      ((IteG K A).stop i H ∧ Qd H) ∨ ((IteG K A).go i H ∧ ∃ Nx : Hp → Prop, (∀ H', Nx H' → ∃ m', m' < m ∧ W (i + 1) m' H') ∧ ∀ x H', (IteG K A).yld i H x H' → g x (wipe σ vs) H' fun σ2 H2 => wipe σ2 vs = wipe σ vs ∧ tt σ2 H2 fun b H3 =>
        if b = true then te σ2 H3 fun y H4 => ∃ acc, H4 D = some (.lst acc) ∧ acc.length < sizeLine ∧ Nx (upd H4 D (.lst (acc ++ [y]))) else Nx H3) := by
  refine ⟨fun i m H => m = xs.length - i ∧ i ≤ xs.length ∧ Pv i H, ⟨xs.length, by simp, Nat.zero_le _, h0⟩, ?_⟩
  rintro i m H ⟨rfl, hi, p⟩
  have qx := hl i H hi p
  by_cases hlt : i < xs.length
  · have ex : xs[i]? = some xs[i] := List.getElem?_eq_getElem hlt
    refine .inr ⟨⟨xs, _, qx, ex⟩, Pv (i + 1), fun H' p' => ⟨xs.length - (i + 1), by omega, rfl, hlt, p'⟩, fun x H' y => ?_⟩
    obtain ⟨T, u, rfl, nT, rfl, z1⟩ := y
    exact hs i u H T (z1 xs qx) p nT
  · have e : i = xs.length := by omega
    subst e
    exact .inl ⟨⟨xs, qx, rfl⟩, hd H p⟩
end L2X
namespace L2X
open PySem PySem.Spec PyProof.Rows L2
theorem eqAt_ty {A : Around} {s : Shared} {a b : String} (ha : tyOk a = true) (hb : tyOk b = true) : SeqAt.EqAt A s (.type a) (.type b) (decide (a = b)) := fun prog w E Q h => by
  unfold eqBool
  refine wpAny_holding ?_
  by_cases e : a = b
  · subst e
    rw [decide_eq_true rfl] at h
    refine wpAny_ite_split (fun _ => ?_) (fun n => absurd (beq_self_eq_true _) n)
    exact wpAny_pure (M := model prog w) (E := E) h
  · rw [decide_eq_false e] at h
    refine wpAny_ite_split (fun q => ?_) (fun _ => ?_)
    · rw [ty_ne e] at q
      cases q
    · have z : wpAny (model prog w) A (compareOp .Eq (.type a) (.type b)) (fun v s' => v = .bool false ∧ s' = s) E s := TypeEq.eq_type_other (tyOk_is ha) (tyOk_is hb) (ty_ne e) ⟨rfl, rfl⟩
      exact wpAny_bind (wpAny_mono z (fun v s' q => by
        obtain ⟨rfl, rfl⟩ := q
        exact wpAny_truthy_bool h) fun _ _ x => x)
def tyIs (a : String) : Value → Bool
  | .type T => decide (T = a)
  | _ => false
def rInTy (K : PySem.W.Frag) : R2 := fun x y H Q => ∃ (a : String) (p : Addr) (ts : List String), x = .ty a ∧ y = .ref p ∧ SqT K H p (ts.map V.ty) ∧ tyOk a = true ∧ ts.all tyOk = true ∧ Q (.bl (ts.any fun t => decide (t = a))) H
theorem vals_tys : ∀ {ts : List String} {us : List Value}, Vals (ts.map V.ty) us → us = ts.map Value.type
  | [], _, .nil => rfl
  | t :: ts, _, .cons r rr => by
    cases (show _ = Value.type t from r)
    rw [vals_tys rr]
    rfl
theorem op_in_ty {X : Cx} : OpR X (compareOp .In) (rInTy X.K) := by
  intro pins s σ H x y v u Q I rx ry h
  obtain ⟨a, p, ts, rfl, rfl, hq, ha, hts, q⟩ := h
  cases ry
  cases (show v = Value.type a from rx)
  obtain ⟨its, r, pl, hz⟩ := I.tuple hq
  have e := vals_tys r
  subst e
  refine SeqAt.in_tupleAt (tyIs a) pl (fun w hw => ?_) ⟨.bl _, H, I, rfl, ?_⟩
  · obtain ⟨t, ht, rfl⟩ : ∃ t, t ∈ ts ∧ w = Value.type t := by
      obtain ⟨t, ht, e⟩ := List.mem_map.mp (show w ∈ ts.map Value.type by simpa using hw)
      exact ⟨t, ht, e.symm⟩
    exact eqAt_ty (List.all_eq_true.mp hts t ht) ha
  · have e : (ts.map Value.type).toArray.any (tyIs a) = ts.any fun t => decide (t = a) := by
      simp [List.any_map]
      rfl
    rw [e]
    exact q
end L2X
namespace Dt
open PySem PySem.Spec PyProof.Rows L2 L2X
/-! ### kinds -/
def isInt : V → Bool
  | .int _ => true
  | _ => false
theorem isInt_ty {K : PySem.W.Frag} {H : Hp} {x : V} {T : String} (t : TyB K H x T) : decide (T = "int") = isInt x := by
  cases t <;> rfl
def betw : V → Int → Int → Bool
  | .int i, lo, hi => decide (lo ≤ i) && decide (i ≤ hi)
  | _, _, _ => false
theorem betw_int (i lo hi : Int) : betw (.int i) lo hi = (decide (lo ≤ i) && decide (i ≤ hi)) := rfl
theorem betw_no {x : V} {lo hi : Int} (h : isInt x = false) : betw x lo hi = false := by
  cases x with
  | int i => cases h
  | _ => rfl
/-- a thing of a known kind -/
def Kt (K : PySem.W.Frag) (H : Hp) (x : V) : Prop := ∃ T, TyB K H x T ∧ tyOk T = true
abbrev sIsNum : Stmt := topS 6
theorem scIsNum : FnScope ["thing"] ["thing"] (defScope sIsNum) := ⟨rfl, rfl, rfl, by decide +kernel, rfl, by decide +kernel, by decide +kernel⟩
def spIsNum (K : PySem.W.Frag) : Sp := fun vs H Q _ => ∃ x, vs = [x] ∧ Kt K H x ∧ Q (.bl (isInt x)) H
abbrev sBetw : Stmt := topS 7
theorem scBetw : FnScope ["thing", "least", "most"] ["thing", "least", "most"] (defScope sBetw) := ⟨rfl, rfl, rfl, by decide +kernel, rfl, by decide +kernel, by decide +kernel⟩
def spBetw (K : PySem.W.Frag) : Sp := fun vs H Q _ => ∃ x lo hi, vs = [x, .int lo, .int hi] ∧ Kt K H x ∧ Q (.bl (betw x lo hi)) H
section
variable {P : Program} {w : World} {K : PySem.W.Frag} {mg : Str → Option Value} {base : Heap}
theorem ok_isNum {f : Addr} {fd : FuncData} {k : Nat} (F : Fun K "is_number" "is_number" sIsNum f fd) (T : Tp mg) (X : Tx mg) : FnOk P w K mg base CX0 (k + 1) f fd ["thing"] (spIsNum K) := by
  refine F.ok scIsNum (fun vs H Q E h => ?_) (fun cdv A outer s H vs Q E hr h => ?_)
  · obtain ⟨x, rfl, _⟩ := h
    rfl
  · obtain ⟨x, rfl, ⟨Ty, ht, ok⟩, q⟩ := h
    refine ⟨_, pss_one (ps_ret (pe_cmpR op_eq_ty (pe_callTy call_type1 (by rfl) T.typ (by decide +kernel) (pa_cons (pv 0) pa_nil)) (pe_bltn (v := .ty "int") (u := .type "int") (by rfl) X.int (by decide +kernel) rfl) (nomark _))), ?_⟩
    refine ⟨x, rfl, x, Ty, rfl, ht, Ty, "int", rfl, rfl, ok, rfl, ?_⟩
    have e : id (decide (Ty = "int")) = isInt x := isInt_ty ht
    rw [e]
    exact q
theorem ok_betw {f fN : Addr} {fd fdN : FuncData} {k : Nat} (F : Fun K "is_between" "is_between" sBetw f fd) (GN : FnOk P w K mg base CX0 (k + 1) fN fdN ["thing"] (spIsNum K)) (mN : mg "is_number" = some (.ref fN)) (kN : PySem.W.keepIn K (.ref fN) = true) (bN : Binds K fdN ["thing"] []) : FnOk P w K mg base CX0 (k + 2) f fd ["thing", "least", "most"] (spBetw K) := by
  refine F.ok scBetw (fun vs H Q E h => ?_) (fun cdv A outer s H vs Q E hr h => ?_)
  · obtain ⟨x, lo, hi, rfl, _⟩ := h
    rfl
  · obtain ⟨x, lo, hi, rfl, kt, q⟩ := h
    refine ⟨_, pss_one (ps_ret (pe_and (pe_call GN hr (by rfl) mN kN bN .nil pass0 (pa_cons (pv 0) pa_nil)) (pe_one (pe_chain op_le op_le (pv 1) (pv 0) (pv 2))))), ?_⟩
    refine ⟨x, rfl, x, rfl, kt, _, rfl, ?_⟩
    cases x with
    | int i =>
      refine iteT ⟨.int lo, rfl, .int i, rfl, lo, i, rfl, rfl, _, rfl, ite2 (fun e => ?_) (fun e => ?_)⟩
      · refine ⟨.int hi, rfl, i, hi, rfl, rfl, ?_⟩
        rw [betw_int, e, Bool.true_and] at q
        exact q
      · rw [betw_int, Bool.eq_false_iff.mpr e, Bool.false_and] at q
        exact q
    | _ => exact iteF q
end
/-! ### is_tuple -/
abbrev sIsTup : Stmt := topS 9
theorem scIsTup : FnScope ["thing", "many"] ["thing", "many"] (defScope sIsTup) := ⟨rfl, rfl, rfl, by decide +kernel, rfl, by decide +kernel, by decide +kernel⟩
def spIsTup (K : PySem.W.Frag) : Sp := fun vs H Q _ => ∃ x n, vs = [x, .int n] ∧ ((∃ T, TyB K H x T ∧ tyOk T = true ∧ T ≠ "tuple" ∧ Q (.bl false) H) ∨ ∃ a xs, x = .ref a ∧ SqT K H a xs ∧ Q (.bl (decide ((xs.length : Int) = n))) H)
section
variable {P : Program} {w : World} {K : PySem.W.Frag} {mg : Str → Option Value} {base : Heap}
theorem ok_isTup {f : Addr} {fd : FuncData} {k : Nat} (F : Fun K "is_tuple" "is_tuple" sIsTup f fd) (T : Tp mg) (X : Tx mg) : FnOk P w K mg base CX0 (k + 1) f fd ["thing", "many"] (spIsTup K) := by
  refine F.ok scIsTup (fun vs H Q E h => ?_) (fun cdv A outer s H vs Q E hr h => ?_)
  · obtain ⟨x, n, rfl, _⟩ := h
    rfl
  · obtain ⟨x, n, rfl, h⟩ := h
    refine ⟨_, pss_one (ps_ret (pe_and (pe_cmpR op_eq_ty (pe_callTy call_type1 (by rfl) T.typ (by decide +kernel) (pa_cons (pv 0) pa_nil)) (pe_bltn (v := .ty "tuple") (u := .type "tuple") (by rfl) X.tuple (by decide +kernel) rfl) (nomark _)) (pe_one (pe_cmpR op_eq (pe_callB call_len_seq (by rfl) X.len PySem.boot_len (pa_cons (pv 0) pa_nil)) (pv 1) (nomark _))))), ?_⟩
    rcases h with ⟨Ty, ht, ok, ne, q⟩ | ⟨a, xs, rfl, hx, q⟩
    · refine ⟨x, rfl, x, Ty, rfl, ht, Ty, "tuple", rfl, rfl, ok, rfl, _, rfl, iteE (decide_eq_false ne) q⟩
    · refine ⟨.ref a, rfl, .ref a, "tuple", rfl, .tup hx, "tuple", "tuple", rfl, rfl, rfl, rfl, _, rfl, iteY (by decide) ?_⟩
      refine ⟨.ref a, rfl, a, xs, rfl, .inr hx, .int n, rfl, rfl, ?_⟩
      have e : decide (V.int (xs.length : Int) = V.int n) = decide ((xs.length : Int) = n) := Bool.eq_iff_iff.mpr ⟨fun h => decide_eq_true (V.int.inj (of_decide_eq_true h)), fun h => decide_eq_true (congrArg V.int (of_decide_eq_true h))⟩
      rw [e]
      exact q
end
end Dt
/-! what many laws share -/
namespace L2X
open PySem PySem.Spec PyProof.Rows L2
theorem PI.or {X : Cx} {tg it : Expr} {w1 w2 : TI} (a : PI X tg it w1) (b : PI X tg it w2) : PI X tg it (fun σ H R => w1 σ H R ∨ w2 σ H R) :=
  ⟨fun pins s σ H R I h => h.elim (a.run pins s σ H R I) (b.run pins s σ H R I)⟩
def rJoinK (K : PySem.W.Frag) : V → List V → Hp → VK → Prop := fun x xs H Q => ∃ a p, ∃ ys : List Str, x = .str a ∧ xs = [.ref p] ∧ (SqL K H p (ys.map V.str) ∨ SqT K H p (ys.map V.str)) ∧ (ys.map (·.length)).sum + ys.length * a.length ≤ 16777216 ∧ Q (.str (Txt.join a ys)) H
theorem pe_joinK {X : Cx} {o e : Expr} {to te : TE} {pos apos : Pos} {K : PySem.W.Frag} (hK : X.K = K) (ho : PE X o to) (he : PE X e te) (hs : starEach [e] X.env = [(false, eval e X.env)] := by rfl) (hbase : attributeBase o "join" X.env (eval o X.env) = eval o X.env := by rfl) (hline : (apos.endLine == pos.line) = true := by rfl) :
    PE X (.Call (.Attribute o "join" apos) [e] [] pos) (tM1 (rJoinK K) to te) := by
  subst hK
  exact pe_join ho he hs hbase hline
end L2X
namespace Dt
open PySem PySem.Spec PyProof.Rows L2 L2X
open SX (S)
def ch (c : Nat) : V := .str ⟨#[c]⟩
structure RowsR (high wide : Nat) (rs : List (List Nat)) : Prop where
  len : rs.length = high
  row : ∀ l ∈ rs, RowR wide l
theorem PicR.rows {high wide : Nat} {rs : List (List Nat)} (h : PicR high wide rs) : RowsR high wide rs := ⟨h.len, h.row⟩
theorem set_getD {ls : List (List Nat)} {r : Nat} {l : List Nat} (h : ls[r]? = some l) : ls.getD r [] = l := by
  rw [List.getD_eq_getElem?_getD, h]
  rfl
theorem getD_at {l : List Nat} {c x : Nat} (h : l[c]? = some x) : l.getD c 0 = x := by
  rw [List.getD_eq_getElem?_getD, h]
  rfl
structure Plc (K : PySem.W.Frag) (H : Hp) (xs : List V) (ps : List (Nat × Nat)) : Prop where
  len : xs.length = ps.length
  at_ : ∀ (i : Nat) (x : V) (p : Nat × Nat), xs[i]? = some x → ps[i]? = some p → ∃ t, x = .ref t ∧ SqT K H t [.int p.1, .int p.2]
theorem Plc.same {K : PySem.W.Frag} {H H' : Hp} {xs : List V} {ps : List (Nat × Nat)} (h : Plc K H xs ps) (s : Same H H') : Plc K H' xs ps :=
  ⟨h.len, fun i x p a b => let ⟨t, e, z⟩ := h.at_ i x p a b; ⟨t, e, sameT s z⟩⟩
theorem chars_row (l : List Nat) : (S l).cps.toList.map (fun c => V.str ⟨#[c]⟩) = l.map ch := by
  unfold S
  rfl
theorem same_over {H0 H : Hp} {a : Addr} {o : HO} (s : Same H0 H) (n : H0 a = none) : Same H0 (upd H a o) := fun b u e => by
  rw [upd_ne (ne_of_none e n)]
  exact s _ _ e
theorem lens_rows (cs : List Nat) : ((cs.map fun c => (⟨#[c]⟩ : Str)).map (·.length)).sum = cs.length := lens_ones cs
theorem join_row (cs : List Nat) : Txt.join "" (cs.map fun c => (⟨#[c]⟩ : Str)) = S cs := join_ones cs
theorem ixN_at {n j : Nat} (hj : j < n) : ixN n (j : Int) = some j := by
  unfold ixN
  rw [if_pos (by omega), if_pos (by omega)]
  simp
theorem chars_S (l : List Nat) : chars (S l) = l.map fun c => V.str ⟨#[c]⟩ := by
  unfold chars S
  simp
theorem sum_ones : ∀ n : Nat, (List.replicate n (1 : Int)).sum = n
  | 0 => rfl
  | n + 1 => by
    rw [List.replicate_succ, List.sum_cons, sum_ones n]
    omega
theorem ch_dec (a b : Nat) : decide (V.str ⟨#[a]⟩ = V.str ⟨#[b]⟩) = decide (a = b) := by
  apply Bool.eq_iff_iff.mpr
  rw [decide_eq_true_iff, decide_eq_true_iff]
  constructor
  · intro h
    have e1 : (⟨#[a]⟩ : Str) = ⟨#[b]⟩ := V.str.inj h
    have e2 : (#[a] : Array Nat) = #[b] := congrArg Str.cps e1
    have e3 : [a] = [b] := congrArg Array.toList e2
    exact (List.cons.inj e3).1
  · intro h
    rw [h]
structure ExN (K : PySem.W.Frag) (mg : Str → Option Value) (nm : Str) (C : Addr) : Prop where
  g : mg nm = some (.ref C)
  x : PySem.W.excIn K C [.type "ValueError", .type "Exception", .type "BaseException", .type "object"] "ValueError.__new__" = true
  k : PySem.W.keepIn K (.ref C) = true
  b : PySem.W.subIn K (.ref C) (.type "BaseException") = some true
  t : PySem.W.typeIn K (.ref C) = some (.type "type")
structure Tz (mg : Str → Option Value) : Prop where
  sum : mg "sum" = none
  zip : mg "zip" = none
theorem tyB_same2 {K : PySem.W.Frag} {H H' : Hp} {x : V} {T : String} (t : TyB K H x T) (s : Same H H') : TyB K H' x T := by
  cases t with
  | non => exact .non
  | bl b => exact .bl b
  | int i => exact .int i
  | str x => exact .str x
  | byt b => exact .byt b
  | lst h => exact .lst (s.seq h)
  | tup h => exact .tup (sameT s h)
  | dK h => exact .dK (s _ _ h)
theorem Kt.same {K : PySem.W.Frag} {H H' : Hp} {x : V} (h : Kt K H x) (s : Same H H') : Kt K H' x := let ⟨T, t, ok⟩ := h; ⟨T, tyB_same2 t s, ok⟩
theorem all_true : ∀ n : Nat, (List.replicate n true).all id = true
  | 0 => rfl
  | n + 1 => by
    rw [List.replicate_succ, List.all_cons, all_true n]
    rfl
theorem kt_int {K : PySem.W.Frag} {H : Hp} (i : Int) : Kt K H (.int i) := ⟨"int", .int i, rfl⟩
theorem kt_bl {K : PySem.W.Frag} {H : Hp} (b : Bool) : Kt K H (.bl b) := ⟨"bool", .bl b, rfl⟩
def rD (l : List Nat) : PyData := .str (S l)
def pD (p : Nat × Nat) : PyData := .tuple [.int p.1, .int p.2]
theorem strOk_row {l : List Nat} (h : ∀ c ∈ l, c = 35 ∨ c = 46) : PyData.strOk (S l) = true := by
  unfold PyData.strOk S
  simp
  intro c hc
  rcases h c hc with z | z <;> (subst z; decide)
theorem lay_rows : ∀ ls : List (List Nat), (∀ l ∈ ls, ∀ c ∈ l, c = 35 ∨ c = 46) → PyData.canLayAll0 (ls.map rD) = true ∧ PyData.depthAll (ls.map rD) ≤ 1
  | [], _ => ⟨by simp [PyData.canLayAll0], by simp [PyData.depthAll]⟩
  | l :: r, h => by
    obtain ⟨h1, h2⟩ := lay_rows r fun m hm => h m (List.mem_cons_of_mem _ hm)
    refine ⟨?_, ?_⟩
    · rw [List.map_cons]
      simp [PyData.canLayAll0, PyData.canLay0, rD, h1, strOk_row (h l List.mem_cons_self)]
    · rw [List.map_cons]
      simp only [PyData.depthAll, PyData.depth, rD]
      omega
theorem lay_places : ∀ ps : List (Nat × Nat), PyData.canLayAll0 (ps.map pD) = true ∧ PyData.depthAll (ps.map pD) ≤ 3
  | [] => ⟨by simp [PyData.canLayAll0], by simp [PyData.depthAll]⟩
  | p :: r => by
    obtain ⟨h1, h2⟩ := lay_places r
    refine ⟨?_, ?_⟩
    · rw [List.map_cons]
      simp [PyData.canLayAll0, PyData.canLay0, pD, h1]
    · rw [List.map_cons]
      simp only [PyData.depthAll, PyData.depth, pD]
      omega
theorem shaped_rows {high wide : Nat} {ls : List (List Nat)} (R : RowsR high wide ls) : SeqAt.shaped (.tuple (ls.map rD)) = true := by
  obtain ⟨h1, h2⟩ := lay_rows ls fun l hl => (R.row l hl).sg
  unfold SeqAt.shaped
  rw [Bool.and_eq_true, decide_eq_true_iff]
  refine ⟨by simp [PyData.canLay0, h1], ?_⟩
  simp only [PyData.depth]
  omega
theorem shaped_places (ps : List (Nat × Nat)) : SeqAt.shaped (.list (ps.map pD)) = true := by
  obtain ⟨h1, h2⟩ := lay_places ps
  unfold SeqAt.shaped
  rw [Bool.and_eq_true, decide_eq_true_iff]
  refine ⟨by simp [PyData.canLay0, h1], ?_⟩
  simp only [PyData.depth]
  omega
theorem shaped_place (p : Nat × Nat) : SeqAt.shaped (pD p) = true := rfl
theorem eqv_rows : ∀ ls : List (List Nat), PyData.eqvAll (ls.map rD) (ls.map rD) = true
  | [] => by simp [PyData.eqvAll]
  | l :: r => by
    rw [List.map_cons, PyData.eqvAll, eqv_rows r]
    simp [PyData.eqv, rD]
theorem eqv_pD (p q : Nat × Nat) : PyData.eqv (pD p) (pD q) = decide (p = q) := by
  apply Bool.eq_iff_iff.mpr
  rw [decide_eq_true_iff]
  simp [PyData.eqv, PyData.eqvAll, pD, Prod.ext_iff]
  omega
theorem eqv_places : ∀ ps : List (Nat × Nat), PyData.eqvAll (ps.map pD) (ps.map pD) = true
  | [] => by simp [PyData.eqvAll]
  | p :: r => by
    rw [List.map_cons, PyData.eqvAll, eqv_places r, eqv_pD, decide_eq_true rfl]
    rfl
section
variable {K : PySem.W.Frag} {H : Hp}
theorem dp_rows : ∀ ls : List (List Nat), DpAll K H (ls.map rv) (ls.map rD)
  | [] => .nil
  | l :: r => .cons (.str _) (dp_rows r)
theorem dp_place {t : Addr} {p : Nat × Nat} (h : SqT K H t [.int p.1, .int p.2]) : Dp K H (.ref t) (pD p) := .tup h (.cons (.int _) (.cons (.int _) .nil))
theorem dp_places : ∀ {xs : List V} {ps : List (Nat × Nat)}, Plc K H xs ps → DpAll K H xs (ps.map pD)
  | [], [], _ => .nil
  | [], _ :: _, h => nomatch h.len
  | _ :: _, [], h => nomatch h.len
  | x :: xs, p :: ps, h => by
    obtain ⟨t, e, ht⟩ := h.at_ 0 x p rfl rfl
    subst e
    exact .cons (dp_place ht) (dp_places ⟨Nat.succ.inj h.len, fun i y q a b => h.at_ (i + 1) y q a b⟩)
theorem Plc.app {xs ys : List V} {ps qs : List (Nat × Nat)} (a : Plc K H xs ps) (b : Plc K H ys qs) : Plc K H (xs ++ ys) (ps ++ qs) := by
  refine ⟨by rw [List.length_append, List.length_append, a.len, b.len], fun i x p hx hp => ?_⟩
  by_cases hi : i < xs.length
  · rw [List.getElem?_append_left hi] at hx
    rw [List.getElem?_append_left (by rw [← a.len]; exact hi)] at hp
    exact a.at_ i x p hx hp
  · rw [List.getElem?_append_right (by omega)] at hx
    rw [List.getElem?_append_right (by rw [← a.len]; omega), ← a.len] at hp
    exact b.at_ _ x p hx hp
theorem plc_upd {xs ys zs : List V} {ps : List (Nat × Nat)} {l : Addr} (h : Plc K H xs ps) (hl : H l = some (.lst ys)) : Plc K (upd H l (.lst zs)) xs ps := by
  refine ⟨h.len, fun i x p a b => ?_⟩
  obtain ⟨t, e, ht⟩ := h.at_ i x p a b
  refine ⟨t, e, ?_⟩
  rcases ht with (ht | ⟨o, ht⟩) | ht
  · exact SqT.of (by rw [upd_ne (ne_of ht hl (by intro z; cases z))]; exact ht)
  · exact .inl (.inr ⟨o, by rw [upd_ne (ne_of ht hl (by intro z; cases z))]; exact ht⟩)
  · exact .inr ht
theorem Plc.take {xs : List V} {ps : List (Nat × Nat)} (a : Plc K H xs ps) (n : Nat) : Plc K H (xs.take n) (ps.take n) := by
  refine ⟨by rw [List.length_take, List.length_take, a.len], fun i x p hx hp => ?_⟩
  rw [List.getElem?_take] at hx hp
  split at hx
  · rename_i h
    rw [if_pos h] at hp
    exact a.at_ i x p hx hp
  · cases hx
end
theorem cutV_whole {xs : List V} {lo hi : Option Int} (h : HT.sIx xs.length 0 lo = 0 ∧ HT.sIx xs.length xs.length hi = xs.length) : cutV xs lo hi = xs := by
  unfold cutV
  rw [h.1, h.2, List.drop_zero, Nat.sub_zero, List.take_length]
theorem sl_any {K : PySem.W.Frag} {H : Hp} {a : Addr} {xs : List V} {lo hi : Option Int} {Q : VK} (h : H a = some (.tup xs)) (q : ∀ z H2, Same H H2 → H2 z = some (.tup (cutV xs lo hi)) → Q (.ref z) H2) : rSlA K (.ref a) lo hi H Q :=
  ⟨a, xs, rfl, SqT.of h, fun w => q a H (Same.refl H) (by rw [cutV_whole w]; exact h), fun _ p hp => q p _ (same_upd hp) upd_same⟩
theorem cat_any {K : PySem.W.Frag} {H : Hp} {a b : Addr} {xs ys : List V} {Q : VK} (h : H a = some (.tup xs)) (g : H b = some (.tup ys)) (hz : xs.length + ys.length ≤ sizeLine) (q : ∀ z H2, Same H H2 → H2 z = some (.tup (xs ++ ys)) → Q (.ref z) H2) :
    rCatA K (.ref a) (.ref b) H Q :=
  ⟨a, b, xs, ys, rfl, rfl, SqT.of h, SqT.of g, hz, fun e => q b H (Same.refl H) (by rw [e]; exact g), fun _ e => q a H (Same.refl H) (by rw [e, List.append_nil]; exact h), fun _ _ p hp => q p _ (same_upd hp) upd_same⟩
theorem rep_any {K : PySem.W.Frag} {H : Hp} {a : Addr} {x : V} {k : Nat} {Q : VK} (h : H a = some (.tup [x])) (h1 : 1 ≤ k) (h2 : k ≤ 1000) (q : ∀ z H2, Same H H2 → H2 z = some (.tup (List.replicate k x)) → Q (.ref z) H2) :
    rRepA K (.ref a) (.int k) H Q := by
  have flat : ∀ n : Nat, (List.replicate n [x]).flatten = List.replicate n x := by
    intro n
    induction n with
    | zero => rfl
    | succ n ih => rw [List.replicate_succ, List.flatten_cons, ih, List.replicate_succ]; rfl
  refine ⟨a, k, [x], rfl, rfl, SqT.of h, (by simp), by omega, by omega, by show 1 ≤ 1000; decide, fun e => q a H (Same.refl H) ?_, fun _ p hp => q p _ (same_upd hp) ?_⟩
  · have : k = 1 := by omega
    subst this
    exact h
  · rw [upd_same, Int.toNat_natCast, flat]
end Dt
/-! a list or a tuple walked, one rule for both -/
namespace L2X
open PySem PySem.Spec PyProof.Rows L2
/-- at a stands a list (true) or a tuple (false) of xs -/
def Sq (K : PySem.W.Frag) (H : Hp) (b : Bool) (a : Addr) (xs : List V) : Prop := match b with
  | true => SqL K H a xs
  | false => SqT K H a xs
theorem sameT0 {K : PySem.W.Frag} {H H' : Hp} {a : Addr} {xs : List V} (e : Same H H') (h : SqT K H a xs) : SqT K H' a xs := by
  rcases h with (h | ⟨o, h⟩) | h
  · exact .inl (.inl (e _ _ h))
  · exact .inl (.inr ⟨o, e _ _ h⟩)
  · exact .inr h
theorem Sq.same {K : PySem.W.Frag} {H H' : Hp} {b : Bool} {a : Addr} {xs : List V} (h : Sq K H b a xs) (s : Same H H') : Sq K H' b a xs := by
  cases b with
  | true => exact s.seq h
  | false => exact sameT0 s h
def Its (K : PySem.W.Frag) (b : Bool) (a : Addr) : It := match b with
  | true => Itl K a
  | false => Itt K a
def iSq (K : PySem.W.Frag) (tl : TE) : TI := fun σ H R => tl σ H fun x H1 => ∃ b a xs, x = .ref a ∧ Sq K H1 b a xs ∧ R (Its K b a) H1
theorem pi_sq {X : Cx} {tg l : Expr} {tl : TE} (hl : PE X l tl) : PI X tg l (iSq X.K tl) := by
  refine ⟨fun pins s σ H R I h => ?_⟩
  refine thn (hl.run pins s σ H _ I h) fun v s1 ⟨x, H1, I1, r1, q1⟩ => ?_
  obtain ⟨b, a, xs, e, hq, q⟩ := q1
  subst e
  cases r1
  cases b with
  | true =>
    obtain ⟨its, rv, p, hz⟩ := I1.list hq
    refine wpAny_pyIter_list p.isList ?_
    refine ⟨s1.heap.objs.size, [s1.heap.objs.size], _, _, H1, rfl, I1.kept (t' := s1.toks) fun b o e => Heap.get?_push_of_some _ e, turn_list a _, ⟨_, Heap.get?_push_size _ rfl, rfl, rfl⟩, fun b hb => ?_, q⟩
    have e : b = s1.heap.objs.size := by simpa using hb
    subst e
    exact I1.fpOk (Nat.le_refl _) (I1.hok.fresh (Nat.le_refl _))
  | false =>
    obtain ⟨its, rv, p, hz⟩ := I1.tuple hq
    refine wpAny_pyIter_tuple (show s1.heap.IsTuple a its.toArray from p) ?_
    refine ⟨s1.heap.objs.size, [s1.heap.objs.size], _, _, H1, rfl, I1.kept (t' := s1.toks) fun b o e => Heap.get?_push_of_some _ e, turn_tuple a _, ⟨_, Heap.get?_push_size _ rfl, rfl, rfl⟩, fun b hb => ?_, q⟩
    have e : b = s1.heap.objs.size := by simpa using hb
    subst e
    exact I1.fpOk (Nat.le_refl _) (I1.hok.fresh (Nat.le_refl _))
theorem lc_sq {K : PySem.W.Frag} {b : Bool} {a : Addr} {xs : List V} {g : TG} {tt : TT} {te : TE} {vs : List Nat} {σ : L2.St} {H1 : Hp} {D : Addr} {Qd : Hp → Prop} (Pv : Nat → Hp → Prop) (h0 : Pv 0 (upd H1 D (.lst []))) (hl : ∀ i H, i ≤ xs.length → Pv i H → Sq K H b a xs)
    (hs : ∀ i x H, xs[i]? = some x → Pv i H → g x (wipe σ vs) H fun σ2 H2 => wipe σ2 vs = wipe σ vs ∧ tt σ2 H2 fun b H3 =>
      if b = true then te σ2 H3 fun y H4 => ∃ acc, H4 D = some (.lst acc) ∧ acc.length < sizeLine ∧ Pv (i + 1) (upd H4 D (.lst (acc ++ [y]))) else Pv (i + 1) H3) (hd : ∀ H, Pv xs.length H → Qd H) :
    ∃ W : Nat → Nat → Hp → Prop, (∃ m, W 0 m (upd H1 D (.lst []))) ∧ ∀ i m H, W i m H →
      ((Its K b a).stop i H ∧ Qd H) ∨ ((Its K b a).go i H ∧ ∃ Nx : Hp → Prop, (∀ H', Nx H' → ∃ m', m' < m ∧ W (i + 1) m' H') ∧ ∀ x H', (Its K b a).yld i H x H' → g x (wipe σ vs) H' fun σ2 H2 => wipe σ2 vs = wipe σ vs ∧ tt σ2 H2 fun b H3 =>
        if b = true then te σ2 H3 fun y H4 => ∃ acc, H4 D = some (.lst acc) ∧ acc.length < sizeLine ∧ Nx (upd H4 D (.lst (acc ++ [y]))) else Nx H3) := by
  cases b with
  | true => exact lc_list Pv h0 hl hs hd
  | false => exact lc_tup Pv h0 hl hs hd
end L2X
namespace L2X
open PySem PySem.Spec PyProof.Rows L2
/-! ### comprehensions of two clauses, and of one, over anything -/
theorem lc2_by {J : It} {g : TG} {tt : TT} {wi1 : TI} {g1 : TG} {tt1 : TT} {te : TE} {vs vs1 : List Nat} {σ : L2.St} {H1 : Hp} {D : Addr} {Qd : Hp → Prop} (n : Nat) (Pv : Nat → Hp → Prop) (h0 : Pv 0 (upd H1 D (.lst [])))
    (hstop : ∀ H, Pv n H → J.stop n H) (hgo : ∀ i H, i < n → Pv i H → J.go i H)
    (hs : ∀ i x H H', i < n → Pv i H → J.yld i H x H' → g x (wipe σ vs) H' fun σ2 H2 => wipe σ2 vs = wipe σ vs ∧ tt σ2 H2 fun b H3 =>
      if b = true then wi1 σ2 H3 fun J1 H4 => ∃ W1 : Nat → Nat → Hp → Prop, (∃ m, W1 0 m H4) ∧ ∀ j k H, W1 j k H →
        (J1.stop j H ∧ Pv (i + 1) H) ∨ (J1.go j H ∧ ∃ Nx1 : Hp → Prop, (∀ H', Nx1 H' → ∃ k', k' < k ∧ W1 (j + 1) k' H') ∧ ∀ x H', J1.yld j H x H' → g1 x (wipe σ2 vs1) H' fun σ3 H5 => wipe σ3 vs1 = wipe σ2 vs1 ∧ tt1 σ3 H5 fun b H6 =>
          if b = true then te σ3 H6 fun y H7 => ∃ acc, H7 D = some (.lst acc) ∧ acc.length < sizeLine ∧ Nx1 (upd H7 D (.lst (acc ++ [y]))) else Nx1 H6)
      else Pv (i + 1) H3) (hd : ∀ H, Pv n H → Qd H) :
    ∃ W : Nat → Nat → Hp → Prop, (∃ m, W 0 m (upd H1 D (.lst []))) ∧ ∀ i m H, W i m H →
      (J.stop i H ∧ Qd H) ∨ (J.go i H ∧ ∃ Nx : Hp → Prop, (∀ H', Nx H' → ∃ m', m' < m ∧ W (i + 1) m' H') ∧ ∀ x H', J.yld i H x H' → g x (wipe σ vs) H' fun σ2 H2 => wipe σ2 vs = wipe σ vs ∧ tt σ2 H2 fun b H3 =>
        if b = true then wi1 σ2 H3 fun J1 H4 => ∃ W1 : Nat → Nat → Hp → Prop, (∃ m, W1 0 m H4) ∧ ∀ j k H, W1 j k H →
          (J1.stop j H ∧ Nx H) ∨ (J1.go j H ∧ ∃ Nx1 : Hp → Prop, (∀ H', Nx1 H' → ∃ k', k' < k ∧ W1 (j + 1) k' H') ∧ ∀ x H', J1.yld j H x H' → g1 x (wipe σ2 vs1) H' fun σ3 H5 => wipe σ3 vs1 = wipe σ2 vs1 ∧ tt1 σ3 H5 fun b H6 =>
            if b = true then te σ3 H6 fun y H7 => ∃ acc, H7 D = some (.lst acc) ∧ acc.length < sizeLine ∧ Nx1 (upd H7 D (.lst (acc ++ [y]))) else Nx1 H6)
        else Nx H3) := by
  refine ⟨fun i m H => m = n - i ∧ i ≤ n ∧ Pv i H, ⟨n, by simp, Nat.zero_le _, h0⟩, ?_⟩
  rintro i m H ⟨rfl, hi, p⟩
  by_cases hlt : i < n
  · exact .inr ⟨hgo i H hlt p, Pv (i + 1), fun H' p' => ⟨n - (i + 1), by omega, rfl, hlt, p'⟩, fun x H' y => hs i x H H' hlt p y⟩
  · have e : i = n := by omega
    subst e
    exact .inl ⟨hstop H p, hd H p⟩
theorem lc2_in {J1 : It} {g1 : TG} {tt1 : TT} {te : TE} {vs1 : List Nat} {σ2 : L2.St} {H4 : Hp} {D : Addr} {Nx : Hp → Prop} (n : Nat) (Pv : Nat → Hp → Prop) (h0 : Pv 0 H4) (hstop : ∀ H, Pv n H → J1.stop n H) (hgo : ∀ i H, i < n → Pv i H → J1.go i H)
    (hs : ∀ i x H H', i < n → Pv i H → J1.yld i H x H' → g1 x (wipe σ2 vs1) H' fun σ3 H5 => wipe σ3 vs1 = wipe σ2 vs1 ∧ tt1 σ3 H5 fun b H6 =>
      if b = true then te σ3 H6 fun y H7 => ∃ acc, H7 D = some (.lst acc) ∧ acc.length < sizeLine ∧ Pv (i + 1) (upd H7 D (.lst (acc ++ [y]))) else Pv (i + 1) H6) (hd : ∀ H, Pv n H → Nx H) :
    ∃ W1 : Nat → Nat → Hp → Prop, (∃ m, W1 0 m H4) ∧ ∀ j k H, W1 j k H →
      (J1.stop j H ∧ Nx H) ∨ (J1.go j H ∧ ∃ Nx1 : Hp → Prop, (∀ H', Nx1 H' → ∃ k', k' < k ∧ W1 (j + 1) k' H') ∧ ∀ x H', J1.yld j H x H' → g1 x (wipe σ2 vs1) H' fun σ3 H5 => wipe σ3 vs1 = wipe σ2 vs1 ∧ tt1 σ3 H5 fun b H6 =>
        if b = true then te σ3 H6 fun y H7 => ∃ acc, H7 D = some (.lst acc) ∧ acc.length < sizeLine ∧ Nx1 (upd H7 D (.lst (acc ++ [y]))) else Nx1 H6) := by
  refine ⟨fun i m H => m = n - i ∧ i ≤ n ∧ Pv i H, ⟨n, by simp, Nat.zero_le _, h0⟩, ?_⟩
  rintro i m H ⟨rfl, hi, p⟩
  by_cases hlt : i < n
  · exact .inr ⟨hgo i H hlt p, Pv (i + 1), fun H' p' => ⟨n - (i + 1), by omega, rfl, hlt, p'⟩, fun x H' y => hs i x H H' hlt p y⟩
  · have e : i = n := by omega
    subst e
    exact .inl ⟨hstop H p, hd H p⟩
end L2X
namespace Dt
open PySem PySem.Spec PyProof.Rows L2 L2X
open SX (S)
/-! ### dots -/
theorem smallT {n : Nat} (h : n < 100000) : n < sizeLine := Nat.lt_of_lt_of_le h (by decide)
def rowDots (r : Nat) (l : List Nat) : List (Nat × Nat) := (l.zipIdx.filter fun p => decide (p.1 = 35)).map fun p => (r, p.2)
def dotsP (rs : List (List Nat)) : List (Nat × Nat) := (rs.zipIdx.map fun p => rowDots p.2 p.1).flatten
theorem map_at {α β : Type} {f : α → β} {l : List α} {i : Nat} {y : β} (h : (l.map f)[i]? = some y) : ∃ x, l[i]? = some x ∧ y = f x := by
  rw [List.getElem?_map] at h
  cases e : l[i]? with
  | none =>
    rw [e] at h
    cases h
  | some z =>
    rw [e] at h
    exact ⟨z, rfl, (Option.some.inj h).symm⟩
theorem dotsP_snoc {rs : List (List Nat)} {i : Nat} {l : List Nat} (h : rs[i]? = some l) : dotsP (rs.take (i + 1)) = dotsP (rs.take i) ++ rowDots i l := by
  have hi : i < rs.length := (List.getElem?_eq_some_iff.mp h).1
  unfold dotsP
  rw [take_snoc h, List.zipIdx_append, List.map_append, List.flatten_append]
  have : (rs.take i).length = i := by
    rw [List.length_take]
    omega
  simp [this]
theorem rowDots_snoc {r : Nat} {l : List Nat} {j c : Nat} (h : l[j]? = some c) : rowDots r (l.take (j + 1)) = rowDots r (l.take j) ++ if c = 35 then [(r, j)] else [] := by
  have hj : j < l.length := (List.getElem?_eq_some_iff.mp h).1
  unfold rowDots
  rw [take_snoc h, List.zipIdx_append, List.filter_append, List.map_append]
  have : (l.take j).length = j := by
    rw [List.length_take]
    omega
  by_cases e : c = 35
  · simp [this, e]
  · simp [this, e]
theorem plc_one {K : PySem.W.Frag} {H : Hp} {xs : List V} {ps : List (Nat × Nat)} {D t : Addr} {r c : Nat} (h : Plc K H xs ps) (hD : H D = some (.lst xs)) (ht : H t = none) :
    Plc K (upd (upd H t (.tup [.int r, .int c])) D (.lst (xs ++ [.ref t]))) (xs ++ [.ref t]) (ps ++ [(r, c)]) := by
  have s := same_upd (o := .tup [V.int r, V.int c]) ht
  have one : Plc K (upd H t (.tup [V.int r, V.int c])) [V.ref t] [(r, c)] := ⟨rfl, fun i x pp hx hpp => by
    cases i with
    | zero =>
      cases hx
      cases hpp
      exact ⟨t, rfl, SqT.of upd_same⟩
    | succ i => exact nomatch hx⟩
  exact plc_upd ((h.same s).app one) (s _ _ hD)
section
variable {P : Program} {w : World} {K : PySem.W.Frag} {mg : Str → Option Value} {base : Heap} {C CP : Addr}
end
end Dt
namespace Dt
open PySem PySem.Spec PyProof.Rows L2 L2X
open SX (S)
/-! ### what a def promises, in one -/
/-- a def of the text as it stands behind the top -/
structure Df (K : PySem.W.Frag) (mg : Str → Option Value) (nm : Str) (st : Stmt) (ps : List Str) : Prop where
  ex : ∃ f fd, Fun K nm nm st f fd ∧ mg nm = some (.ref f) ∧ Binds K fd ps []
/-- .. with its promise -/
structure Pm (P : Program) (w : World) (K : PySem.W.Frag) (mg : Str → Option Value) (base : Heap) (CX : CXT) (k : Nat) (nm : Str) (ps : List Str) (sp : Sp) : Prop where
  ex : ∃ f fd, FnOk P w K mg base CX k f fd ps sp ∧ mg nm = some (.ref f) ∧ PySem.W.keepIn K (.ref f) = true ∧ Binds K fd ps []
theorem Pm.of {P : Program} {w : World} {K : PySem.W.Frag} {mg : Str → Option Value} {base : Heap} {CX : CXT} {k : Nat} {nm : Str} {st : Stmt} {ps : List Str} {sp : Sp} (d : Df K mg nm st ps) (h : ∀ f fd, Fun K nm nm st f fd → FnOk P w K mg base CX k f fd ps sp) : Pm P w K mg base CX k nm ps sp := by
  obtain ⟨f, fd, F, m, b⟩ := d.ex
  exact ⟨f, fd, h f fd F, m, F.kp, b⟩
/-! ### parts -/
def strB (x y : V) (n : Int) : Bool := match y with
  | .int m => decide (1 ≤ m) && betw x 0 (n - m)
  | _ => false
theorem strB_no {x y : V} {n : Int} (h : isInt y = false) : strB x y n = false := by
  cases y with
  | int i => cases h
  | _ => rfl
theorem strB_true {x y : V} {n : Nat} (h : strB x y (n : Int) = true) : ∃ t m : Nat, x = .int t ∧ y = .int m ∧ 1 ≤ m ∧ t + m ≤ n := by
  cases y with
  | int m =>
    unfold strB at h
    rw [Bool.and_eq_true, decide_eq_true_iff] at h
    obtain ⟨h1, h2⟩ := h
    cases x with
    | int t =>
      rw [betw_int, Bool.and_eq_true, decide_eq_true_iff, decide_eq_true_iff] at h2
      refine ⟨t.toNat, m.toNat, ?_, ?_, by omega, by omega⟩
      · rw [Int.toNat_of_nonneg h2.1]
      · rw [Int.toNat_of_nonneg (by omega)]
    | _ => cases h2
  | _ => cases h
def cutR (rs : List (List Nat)) (t l h w : Nat) : List (List Nat) := ((rs.drop t).take h).map fun r => (r.drop l).take w
theorem cutV_mid (xs : List V) (t h : Nat) (b : t + h ≤ xs.length) : cutV xs (some (t : Int)) (some ((t : Int) + (h : Int))) = (xs.drop t).take h := by
  have e : ((t : Int) + (h : Int)) = ((t + h : Nat) : Int) := by omega
  unfold cutV
  rw [e, HT.sIx_nat, HT.sIx_nat, Nat.min_eq_left b, Nat.min_eq_left (by omega), Nat.add_sub_cancel_left]
theorem cutS_mid (l : List Nat) (t h : Nat) (b : t + h ≤ l.length) : cutS (S l) (some (t : Int)) (some ((t : Int) + (h : Int))) = S ((l.drop t).take h) := by
  have e : ((t : Int) + (h : Int)) = ((t + h : Nat) : Int) := by omega
  unfold cutS
  rw [e, SX.S_len, HT.sIx_nat, HT.sIx_nat, Nat.min_eq_left b, Nat.min_eq_left (by omega), Nat.add_sub_cancel_left]
abbrev sStr : Stmt := topS 18
theorem scStr : FnScope ["start", "many", "whole"] ["start", "many", "whole"] (defScope sStr) := ⟨rfl, rfl, rfl, by decide +kernel, rfl, by decide +kernel, by decide +kernel⟩
def spStr (K : PySem.W.Frag) : Sp := fun vs H Q _ => ∃ x y n, vs = [x, y, .int n] ∧ Kt K H x ∧ Kt K H y ∧ Q (.bl (strB x y n)) H
abbrev sCut : Stmt := topS 17
theorem scCut : FnScope ["picture", "top", "left", "high", "wide", "rows", "columns", "row"] ["picture", "top", "left", "high", "wide"] (defScope sCut) := ⟨rfl, rfl, rfl, by decide +kernel, rfl, by decide +kernel, by decide +kernel⟩
def spCut (K : PySem.W.Frag) (CP : Addr) : Sp := fun vs H Q E => ∃ (a : Addr) (high wide : Nat) (rs : List (List Nat)) (x1 x2 x3 x4 : V), vs = [.ref a, x1, x2, x3, x4] ∧ H a = some (.tup (rs.map rv)) ∧ PicR high wide rs ∧ Kt K H x1 ∧ Kt K H x2 ∧ Kt K H x3 ∧ Kt K H x4 ∧
  ((strB x1 x3 high && strB x2 x4 wide) = true → ∀ t l h w : Nat, x1 = .int t → x2 = .int l → x3 = .int h → x4 = .int w → t + h ≤ high → l + w ≤ wide → 1 ≤ h → 1 ≤ w → ∀ p H', Same H H' → H p = none → H' p = some (.tup ((cutR rs t l h w).map rv)) → Q (.ref p) H') ∧
  ((strB x1 x3 high && strB x2 x4 wide) = false → ∀ H', Same H H' → E (.ref CP) none H')
section
variable {P : Program} {w : World} {K : PySem.W.Frag} {mg : Str → Option Value} {base : Heap} {C CP : Addr}
theorem ok_str {f : Addr} {fd : FuncData} {k : Nat} (F : Fun K "_is_stretch" "_is_stretch" sStr f fd) (GI : Pm P w K mg base CX0 (k + 1) "is_number" ["thing"] (spIsNum K)) (GB : Pm P w K mg base CX0 (k + 2) "is_between" ["thing", "least", "most"] (spBetw K)) : FnOk P w K mg base CX0 (k + 3) f fd ["start", "many", "whole"] (spStr K) := by
  obtain ⟨fI, fdI, GI, mI, kI, bI⟩ := GI.ex
  obtain ⟨fB, fdB, GB, mB, kB, bB⟩ := GB.ex
  refine F.ok scStr (fun vs H Q E h => ?_) (fun cdv A outer s H vs Q E hr h => ?_)
  · obtain ⟨x, y, n, rfl, _⟩ := h
    rfl
  · obtain ⟨x, y, n, rfl, kx, ky, q⟩ := h
    have hr1 : Room (k + 1) _ := hr.mono (by omega)
    refine ⟨_, pss_one (ps_ret (pe_and (pe_call GI hr1 (by rfl) mI kI bI .nil pass0 (pa_cons (pv 1) pa_nil)) (pe_and (pe_cmpR op_ge (pv 1) pe_int (nomark _)) (pe_one (pe_call GB hr (by rfl) mB kB bB .nil pass0 (pa_cons (pv 0) (pa_cons pe_int (pa_cons (pe_op op_sub (pv 2) (pv 1)) pa_nil)))))))), ?_⟩
    refine ⟨y, rfl, y, rfl, ky, _, rfl, ?_⟩
    cases y with
    | int m =>
      refine iteT ⟨.int m, rfl, m, 1, rfl, rfl, _, rfl, ite2 (fun e => ?_) (fun e => ?_)⟩
      · refine ⟨x, rfl, .int n, rfl, .int m, rfl, n, m, rfl, rfl, x, 0, n - m, rfl, kx, ?_⟩
        have e2 : strB x (.int m) n = betw x 0 (n - m) := by
          show (decide (1 ≤ m) && betw x 0 (n - m)) = _
          have : decide (1 ≤ m) = true := e
          rw [this, Bool.true_and]
        rw [e2] at q
        exact q
      · have e2 : strB x (.int m) n = false := by
          show (decide (1 ≤ m) && betw x 0 (n - m)) = _
          have : decide (1 ≤ m) = false := Bool.eq_false_iff.mpr e
          rw [this, Bool.false_and]
        rw [e2] at q
        exact q
    | _ => exact iteF q
theorem ok_cut {f : Addr} {fd : FuncData} {k : Nat} (F : Fun K "cut_out" "cut_out" sCut f fd) (X : Tx mg) (NP : ExN K mg "NoPlace" CP) (GZ : GS P w K mg base C (k + 3)) (GI : Pm P w K mg base CX0 (k + 3) "_is_stretch" ["start", "many", "whole"] (spStr K)) : FnOk P w K mg base (L2.CX P w) (k + 4) f fd ["picture", "top", "left", "high", "wide"] (spCut K CP) := by
  obtain ⟨fS, fdS, GS, mS, kS, bS⟩ := GZ.ex
  obtain ⟨fI, fdI, GI, mI, kI, bI⟩ := GI.ex
  refine F.okX scCut (fun vs H Q E h => ?_) (fun cdv A outer s H vs Q E hr h => ?_)
  · obtain ⟨a, _, _, _, x1, x2, x3, x4, rfl, _⟩ := h
    rfl
  · obtain ⟨a, high, wide, rs, x1, x2, x3, x4, rfl, ha, pr, k1, k2, k3, k4, q1, q2⟩ := h
    have nd := scCut.nd
    refine ⟨_, pss_cons (ps_asg (pe_callS GS hr (by rfl) mS kS bS (fun σ => passAt (takes_of rfl rfl rfl rfl) σ) (pa_cons (pv 0) pa_nil)) (pg_tup rfl (pgs_cons (pg_name (i := 5) nd rfl (Or.inl rfl)) (pgs_cons (pg_name (i := 6) nd rfl (Or.inl rfl)) pgs_nil))))
      (pss_cons (ps_if (PW.pt (pw_or (pt_not (pt_val (pe_call GI hr (by rfl) mI kI bI .nil pass0 (pa_cons (pv 1) (pa_cons (pv 3) (pa_cons (pv 5) pa_nil)))))) (pw_or1 (pt_not (pt_val (pe_call GI hr (by rfl) mI kI bI .nil pass0 (pa_cons (pv 2) (pa_cons (pv 4) (pa_cons (pv 6) pa_nil)))))))))
        (pss_one (ps_raise rfl (takes_of rfl rfl rfl rfl) (pmk_own PySem.F.excBase_ValueError NP.x NP.g NP.k (raises_own NP.b NP.t) rfl))) pss_nil)
      (pss_one (ps_ret (pe_callTy call_tuple_of (by rfl) X.tuple (by decide +kernel) (pa_cons (pe_lc (own := [("row", 7)]) (g := gName 7) (tt := tYes) rfl nd (pi_tup (pe_slice sl_tupA (pv 0) (po_some (pv 1)) (po_some (pe_op op_add (pv 1) (pv 3))))) (blkOk_by (N := ["picture", "top", "left", "high", "wide", "rows", "columns", "row"]) (sc := defScope sCut) (by decide +kernel)) (fun _ _ _ _ _ => pg_name (i := 7) nd rfl (Or.inl rfl)) (fun _ _ _ _ _ => pts_nil)
          (fun _ _ _ _ _ => pe_slice sl_str (pv 7) (po_some (pv 2)) (po_some (pe_op op_add (pv 2) (pv 4))))) pa_nil))))), ?_⟩
    have e1 := picSize pr
    refine ⟨.ref a, rfl, .ref a, rfl, .inr ⟨a, _, rfl, SqT.of ha, kn_rows pr, picOk_pic pr, fun p3 H3 s3 n3 h3 => ?_⟩⟩
    rw [e1.1, e1.2] at h3
    refine ⟨p3, _, rfl, SqT.of h3, rfl, _, _, rfl, _, _, rfl, rfl, x1, rfl, x3, rfl, .int high, rfl, x1, x3, high, rfl, k1.same s3, k3.same s3, _, rfl, ?_⟩
    cases b1 : strB x1 x3 high with
    | false =>
      refine iteT (iteT (q2 (by rw [b1]; rfl) _ s3))
    | true =>
      refine iteF ⟨x2, rfl, x4, rfl, .int wide, rfl, x2, x4, wide, rfl, k2.same s3, k4.same s3, _, rfl, ?_⟩
      cases b2 : strB x2 x4 wide with
      | false => exact iteT (q2 (by rw [b1, b2]; rfl) _ s3)
      | true =>
        refine iteF ?_
        obtain ⟨t, hh, rfl, rfl, hh1, hh2⟩ := strB_true b1
        obtain ⟨l, ww, rfl, rfl, ww1, ww2⟩ := strB_true b2
        have q := q1 (by rw [b1, b2]; rfl) t l hh ww rfl rfl rfl rfl hh2 ww2 hh1 ww1
        have hlen := pr.len
        refine ⟨.ref a, rfl, .int t, rfl, t, rfl, .int t, rfl, .int hh, rfl, t, hh, rfl, rfl, _, rfl, sl_any (s3 _ _ ha) fun z H4 s4 hz => ?_⟩
        rw [cutV_mid _ _ _ (by rw [List.length_map, hlen]; exact hh2), ← List.map_drop, ← List.map_take] at hz
        have s34 := s3.trans s4
        refine ⟨z, rfl, ⟨_, SqT.of hz⟩, fun D hD => lc_tup (K := K) (a := z) (xs := ((rs.drop t).take hh).map rv) (fun i H5 => Same H4 H5 ∧ H5 D = some (.lst (((((rs.drop t).take hh).take i).map fun r => (r.drop l).take ww).map rv))) ⟨same_upd hD, upd_same⟩ (fun i H5 _ zz => SqT.of (zz.1 _ _ hz)) ?_ ?_⟩
        · rintro i x H5 hi ⟨sm, h5⟩
          obtain ⟨r, hr, rfl⟩ := map_at hi
          have hm : r ∈ rs := List.mem_of_mem_drop (List.mem_of_mem_take (List.mem_of_getElem? hr))
          have lr := (pr.row r hm).len
          have w1 := pr.w1
          have h1' := pr.h1
          have hil : i < ((rs.drop t).take hh).length := (List.getElem?_eq_some_iff.mp hr).1
          rw [List.length_take, List.length_drop] at hil
          refine ⟨rfl, rv r, rfl, .int l, rfl, l, rfl, .int l, rfl, .int ww, rfl, l, ww, rfl, rfl, _, rfl, S r, rfl, ?_, ?_⟩
          · rw [SX.S_len]
            exact Nat.le_of_lt (small1000 (by omega))
          · rw [cutS_mid _ _ _ (by omega)]
            refine ⟨_, h5, ?_, same_over sm hD, ?_⟩
            · rw [List.length_map, List.length_map, List.length_take]
              exact smallT (by omega)
            · rw [upd_same, take_snoc hr, List.map_append, List.map_append]
              rfl
        · rintro H5 ⟨sm, h5⟩
          rw [List.length_map, List.take_length] at h5
          refine ⟨D, _, rfl, .inl ⟨SqL.of h5, fun p hp => ?_⟩⟩
          have sp := same_upd (o := .tup ((cutR rs t l hh ww).map rv)) hp
          exact q p _ ((s34.trans sm).trans sp) (s34.free (sm.free hp)) upd_same
end
end Dt
namespace Dt
open PySem PySem.Spec PyProof.Rows L2 L2X
open SX (S)
/-! ### dots turned over -/
def flipC (c : Nat) : Nat := if c = 35 then 46 else 35
def flipAt (ls : List (List Nat)) (r c : Nat) : List (List Nat) := ls.set r ((ls.getD r []).set c (flipC ((ls.getD r []).getD c 0)))
def flipAll (ls : List (List Nat)) (ps : List (Nat × Nat)) : List (List Nat) := ps.foldl (fun a p => flipAt a p.1 p.2) ls
theorem flip_ok {c : Nat} : flipC c = 35 ∨ flipC c = 46 := by
  unfold flipC
  split
  · exact .inr rfl
  · exact .inl rfl
theorem flipAt_eq {ls : List (List Nat)} {r c x : Nat} {l : List Nat} (h : ls[r]? = some l) (hx : l[c]? = some x) : flipAt ls r c = ls.set r (l.set c (flipC x)) := by
  unfold flipAt
  rw [set_getD h, getD_at hx]
theorem RowsR.flip {high wide r c : Nat} {rs : List (List Nat)} (h : RowsR high wide rs) (hr : r < high) (hc : c < wide) : RowsR high wide (flipAt rs r c) := by
  have hr' : r < rs.length := by rw [h.len]; exact hr
  have e1 : rs[r]? = some rs[r] := List.getElem?_eq_getElem hr'
  have rw1 := h.row rs[r] (List.getElem_mem hr')
  have hc' : c < rs[r].length := by rw [rw1.len]; exact hc
  have e2 : rs[r][c]? = some rs[r][c] := List.getElem?_eq_getElem hc'
  rw [flipAt_eq e1 e2]
  refine ⟨by rw [List.length_set, h.len], fun l hl => ?_⟩
  rcases List.mem_or_eq_of_mem_set hl with q | q
  · exact h.row l q
  · rw [q]
    refine ⟨by rw [List.length_set, rw1.len], fun x hx => ?_⟩
    rcases List.mem_or_eq_of_mem_set hx with q2 | q2
    · exact rw1.sg x q2
    · rw [q2]
      exact flip_ok
theorem RowsR.flips {high wide : Nat} : ∀ {ps : List (Nat × Nat)} {rs : List (List Nat)}, RowsR high wide rs → (∀ p ∈ ps, p.1 < high ∧ p.2 < wide) → RowsR high wide (flipAll rs ps)
  | [], _, h, _ => h
  | p :: ps, rs, h, hp => by
    have h1 := hp p List.mem_cons_self
    exact RowsR.flips (ps := ps) (h.flip h1.1 h1.2) fun q hq => hp q (List.mem_cons_of_mem _ hq)
structure Grid (H : Hp) (g : Addr) (as : List Addr) (ls : List (List Nat)) : Prop where
  top : H g = some (.lst (as.map V.ref))
  len : as.length = ls.length
  row : ∀ (i : Nat) (a : Addr) (l : List Nat), as[i]? = some a → ls[i]? = some l → H a = some (.lst (l.map ch))
  nd : as.Nodup
  off : g ∉ as
theorem Grid.same {H H' : Hp} {g : Addr} {as : List Addr} {ls : List (List Nat)} (G : Grid H g as ls) (s : Same H H') : Grid H' g as ls := ⟨s _ _ G.top, G.len, fun i a l h1 h2 => s _ _ (G.row i a l h1 h2), G.nd, G.off⟩
theorem Grid.put {H : Hp} {g a : Addr} {as : List Addr} {ls : List (List Nat)} {r c x : Nat} {l : List Nat} (G : Grid H g as ls) (ha : as[r]? = some a) (hl : ls[r]? = some l) : Grid (upd H a (.lst ((l.map ch).set c (ch x)))) g as (ls.set r (l.set c x)) := by
  have na : g ≠ a := fun e => G.off (e ▸ List.mem_of_getElem? ha)
  refine ⟨by rw [upd_ne na]; exact G.top, by rw [List.length_set, G.len], fun i b m hb hm => ?_, G.nd, G.off⟩
  by_cases e : i = r
  · subst e
    rw [ha] at hb
    cases hb
    have hlt := (List.getElem?_eq_some_iff.mp hl).1
    rw [List.getElem?_set_self hlt] at hm
    cases hm
    rw [upd_same, List.map_set]
  · rw [List.getElem?_set_ne (Ne.symm e)] at hm
    have nb : b ≠ a := fun q => by
      subst q
      obtain ⟨h1, e1⟩ := List.getElem?_eq_some_iff.mp hb
      obtain ⟨h2, e2⟩ := List.getElem?_eq_some_iff.mp ha
      exact e ((List.getElem_inj G.nd).mp (e1.trans e2.symm))
    rw [upd_ne nb]
    exact G.row i b m hb hm
/-- one more row -/
theorem Grid.add {H : Hp} {g a : Addr} {as : List Addr} {ls : List (List Nat)} {l : List Nat} (G : Grid H g as ls) (hn : H a = none) : Grid (upd (upd H a (.lst (l.map ch))) g (.lst (as.map V.ref ++ [V.ref a]))) g (as ++ [a]) (ls ++ [l]) := by
  have na : g ≠ a := ne_of_none G.top hn
  have old : ∀ b ∈ as, H b ≠ none := fun b hb e => by
    obtain ⟨i, hi⟩ := List.mem_iff_getElem?.mp hb
    have hlt : i < ls.length := by
      rw [← G.len]
      exact (List.getElem?_eq_some_iff.mp hi).1
    have := G.row i b _ hi (List.getElem?_eq_getElem hlt)
    rw [e] at this
    cases this
  have am : a ∉ as := fun h => old a h hn
  refine ⟨?_, by rw [List.length_append, List.length_append, G.len]; rfl, fun i b m hb hm => ?_, ?_, ?_⟩
  · rw [upd_same, List.map_append]
    rfl
  · have nbg : b ≠ g := fun q => by
      subst q
      rcases List.mem_append.mp (List.mem_of_getElem? hb) with z | z
      · exact G.off z
      · exact na (List.mem_singleton.mp z)
    rw [upd_ne nbg]
    by_cases hi : i < as.length
    · rw [List.getElem?_append_left hi] at hb
      rw [List.getElem?_append_left (by rw [← G.len]; exact hi)] at hm
      have nba : b ≠ a := fun q => am (q ▸ List.mem_of_getElem? hb)
      rw [upd_ne nba]
      exact G.row i b m hb hm
    · have hi2 : i = as.length := by
        have := (List.getElem?_eq_some_iff.mp hb).1
        rw [List.length_append, List.length_singleton] at this
        omega
      rw [hi2, List.getElem?_concat_length] at hb
      rw [hi2, G.len, List.getElem?_concat_length] at hm
      cases hb
      cases hm
      rw [upd_same]
  · rw [List.nodup_append]
    exact ⟨G.nd, (by simp), fun x hx y hy e => am (by rw [← List.mem_singleton.mp hy, ← e]; exact hx)⟩
  · intro h
    rcases List.mem_append.mp h with z | z
    · exact G.off z
    · exact na (List.mem_singleton.mp z)
/-- .. and its rows are new -/
structure GridN (H0 H : Hp) (g : Addr) (as : List Addr) (ls : List (List Nat)) : Prop where
  gr : Grid H g as ls
  sm : Same H0 H
  ng : H0 g = none
  nr : ∀ a ∈ as, H0 a = none
theorem GridN.put {H0 H : Hp} {g a : Addr} {as : List Addr} {ls : List (List Nat)} {r c x : Nat} {l : List Nat} (G : GridN H0 H g as ls) (ha : as[r]? = some a) (hl : ls[r]? = some l) : GridN H0 (upd H a (.lst ((l.map ch).set c (ch x)))) g as (ls.set r (l.set c x)) :=
  ⟨G.gr.put ha hl, same_over G.sm (G.nr a (List.mem_of_getElem? ha)), G.ng, G.nr⟩
theorem GridN.add {H0 H : Hp} {g a : Addr} {as : List Addr} {ls : List (List Nat)} {l : List Nat} (G : GridN H0 H g as ls) (hn : H a = none) : GridN H0 (upd (upd H a (.lst (l.map ch))) g (.lst (as.map V.ref ++ [V.ref a]))) g (as ++ [a]) (ls ++ [l]) := by
  have na := G.sm.free hn
  refine ⟨G.gr.add hn, same_over (same_over G.sm na) G.ng, G.ng, fun b hb => ?_⟩
  rcases List.mem_append.mp hb with z | z
  · exact G.nr b z
  · rw [List.mem_singleton.mp z]
    exact na
theorem GridN.same {H0 H H' : Hp} {g : Addr} {as : List Addr} {ls : List (List Nat)} (G : GridN H0 H g as ls) (s : Same H H') : GridN H0 H' g as ls := ⟨G.gr.same s, G.sm.trans s, G.ng, G.nr⟩
theorem GridN.same' {H0 H : Hp} {g E : Addr} {as : List Addr} {ls : List (List Nat)} {xs ys : List V} (G : GridN H0 H g as ls) (_ : H E = some (.lst xs)) (n1 : g ≠ E) (n2 : ∀ a ∈ as, a ≠ E) (n3 : H0 E = none) : GridN H0 (upd H E (.lst ys)) g as ls :=
  ⟨⟨by rw [upd_ne n1]; exact G.gr.top, G.gr.len, fun i a l h1 h2 => by rw [upd_ne (n2 a (List.mem_of_getElem? h1))]; exact G.gr.row i a l h1 h2, G.gr.nd, G.gr.off⟩, same_over G.sm n3, G.ng, G.nr⟩
end Dt
namespace L2X
open PySem PySem.Spec PyProof.Rows L2
/-- i ** 3 of an int of any decent size -/
def CPow3 (i j : Int) : Prop := j = 3 ∧ i.natAbs < 2 ^ 1000
theorem op_pow3 {X : Cx} : OpR X (binaryOp .Pow) (rI CPow3 fun i j => .int (i ^ j.toNat)) := opI fun i j _ _ _ _ _ hc q => by
  obtain ⟨rfl, h⟩ := hc
  refine pow_int (by decide) ?_ q
  have z := PyProof.Rows.intBits_le h
  omega
end L2X
namespace Dt
open PySem PySem.Spec PyProof.Rows L2 L2X
open SX (S)
/-! ### the drawing list -/
def Du (H : Hp) (d : Addr) (n : Nat) : Prop := ∃ a b t : Int, H d = some (.lst [.int a, .int b, .int t]) ∧ 0 ≤ t ∧ t ≤ (n : Int)
/-- all but d stays -/
def Do (d : Addr) (H H' : Hp) : Prop := ∀ b o, H b = some o → b ≠ d → H' b = some o
theorem Do.refl {d : Addr} {H : Hp} : Do d H H := fun _ _ e _ => e
theorem Do.trans {d : Addr} {H H1 H2 : Hp} (a : Do d H H1) (b : Do d H1 H2) : Do d H H2 := fun x o e h1 => b x o (a x o e h1) h1
theorem Do.same {d : Addr} {H H' : Hp} (a : Same H H') : Do d H H' := fun b o e _ => a b o e
theorem Du.same {H H' : Hp} {d : Addr} {n : Nat} (D : Du H d n) (s : Same H H') : Du H' d n := by
  obtain ⟨a, b, t, h, h0, h1⟩ := D
  exact ⟨a, b, t, s _ _ h, h0, h1⟩
theorem Du.le {H : Hp} {d : Addr} {n m : Nat} (D : Du H d n) (l : n ≤ m) : Du H d m := by
  obtain ⟨a, b, t, h, h0, h1⟩ := D
  exact ⟨a, b, t, h, h0, by omega⟩
theorem Du.new {H : Hp} {d p : Addr} {n : Nat} (D : Du H d n) (h : H p = none) : p ≠ d := by
  obtain ⟨a, b, t, e, _⟩ := D
  exact fun z => by (rw [z, e] at h; cases h)
theorem Du.upd {H : Hp} {d p : Addr} {n : Nat} {o : HO} (D : Du H d n) (h : p ≠ d) : Du (upd H p o) d n := by
  obtain ⟨a, b, t, e, h0⟩ := D
  exact ⟨a, b, t, by rw [upd_ne h.symm]; exact e, h0⟩
theorem Do.nn {d p : Addr} {n : Nat} {H H' : Hp} (a : Do d H H') (D : Du H' d n) (h : H' p = none) : H p = none := by
  cases e : H p with
  | none => rfl
  | some o =>
    rw [a _ _ e (D.new h)] at h
    cases h
/-- what was under no watch ahead may change -/
theorem Do.upd {d p : Addr} {H H' : Hp} {o : HO} (a : Do d H H') (h : H p = none) : Do d H (upd H' p o) := fun b u e n => by
  rw [upd_ne (ne_of_none e h)]
  exact a _ _ e n
def fuel : Nat := 1000000000000
abbrev sNx : Stmt := topS 28
theorem scNx : FnScope ["draw", "below", "found"] ["draw", "below"] (defScope sNx) := ⟨rfl, rfl, rfl, by decide +kernel, rfl, by decide +kernel, by decide +kernel⟩
def spNx : Sp := fun vs H Q _ => ∃ (d : Addr) (b : Int) (n : Nat), vs = [.ref d, .int b] ∧ Du H d n ∧ n ≤ fuel ∧ 0 < b ∧ b < 1073741824 ∧ ∀ (m : Int) (H' : Hp), 0 ≤ m → m < b → Du H' d (n + 1) → Do d H H' → Q (.int m) H'
abbrev sPk : Stmt := topS 29
theorem scPk : FnScope ["draw", "some"] ["draw", "some"] (defScope sPk) := ⟨rfl, rfl, rfl, by decide +kernel, rfl, by decide +kernel, by decide +kernel⟩
/-- of a list, or of a text -/
def spPk (K : PySem.W.Frag) : Sp := fun vs H Q _ => ∃ (d : Addr) (x : V) (n : Nat), vs = [.ref d, x] ∧ Du H d n ∧ n ≤ fuel ∧
  ((∃ (l : Addr) (xs : List V), x = .ref l ∧ l ≠ d ∧ H l = some (.lst xs) ∧ 0 < xs.length ∧ xs.length ≤ 1000 ∧ ∀ (j : Nat) (y : V) (H' : Hp), xs[j]? = some y → Du H' d (n + 1) → Do d H H' → Q y H') ∨
   (∃ (z : Str), x = .str z ∧ 0 < z.length ∧ z.length ≤ 1000 ∧ ∀ (c : Nat) (H' : Hp), c ∈ z.cps.toList → Du H' d (n + 1) → Do d H H' → Q (.str ⟨#[c]⟩) H'))
abbrev sBg : Stmt := topS 27
theorem scBg : FnScope ["cell", "k"] ["cell", "k"] (defScope sBg) := ⟨rfl, rfl, rfl, by decide +kernel, rfl, by decide +kernel, by decide +kernel⟩
def spBg : Sp := fun vs H Q _ => ∃ (c k : Int), vs = [.int c, .int k] ∧ 0 ≤ k ∧ k ≤ 1000 ∧ ∀ (d : Addr) (H' : Hp), H d = none → Same H H' → Du H' d 0 → Q (.ref d) H'
theorem small_bits {a b : Nat} {i : Int} (h0 : 0 ≤ i) (h1 : i < (b : Int)) (hb : b ≤ 2 ^ a) : i.natAbs < 2 ^ a := by omega
section
variable {P : Program} {w : World} {K : PySem.W.Frag} {mg : Str → Option Value} {base : Heap}
theorem ok_nx {f : Addr} {fd : FuncData} {k : Nat} (F : Fun K "_law_next" "_law_next" sNx f fd) : FnOk P w K mg base CX0 (k + 1) f fd ["draw", "below"] spNx := by
  refine F.ok scNx (fun vs H Q E h => ?_) (fun cdv A outer s H vs Q E hr h => ?_)
  · obtain ⟨d, b, n, rfl, _⟩ := h
    rfl
  · obtain ⟨d, b, n, rfl, D, hn, hb0, hb1, q⟩ := h
    have nd := scNx.nd
    refine ⟨_, pss_cons (ps_if (pt_cmpR op_gt (pe_ix ix_list (pv 0) pe_int (fun _ _ => rfl)) pe_int (nomark _))
        (pss_cons (ps_set (i := 2) nd rfl (.inl rfl) (pe_op op_mod (pe_ix ix_list (pv 0) pe_int (fun _ _ => rfl)) (pv 1)))
        (pss_cons (ps_asg (pe_op op_fdiv (pe_ix ix_list (pv 0) pe_int (fun _ _ => rfl)) (pv 1)) (pg_sub (pv 0) pe_int set_list))
        (pss_one (ps_ret (pv 2))))) pss_nil)
      (pss_cons (ps_asg (pe_op op_add (pe_ix ix_list (pv 0) pe_int (fun _ _ => rfl)) pe_int) (pg_sub (pv 0) pe_int set_list))
      (pss_cons (ps_set (i := 2) nd rfl (.inl rfl) (pe_op op_add (pe_op op_mod (pe_ix ix_list (pv 0) pe_int (fun _ _ => rfl)) pe_int) (pe_op op_mul pe_int (pe_ix ix_list (pv 0) pe_int (fun _ _ => rfl)))))
      (pss_cons (ps_set (i := 2) nd rfl (.inl rfl) (pe_op op_mulX (pv 2) (pe_op op_add (pe_op op_add (pe_op op_mod (pe_ix ix_list (pv 0) pe_int (fun _ _ => rfl)) pe_int) (pe_op op_mulX (pe_op op_mul pe_int (pe_ix ix_list (pv 0) pe_int (fun _ _ => rfl))) (pe_ix ix_list (pv 0) pe_int (fun _ _ => rfl)))) pe_int)))
      (pss_one (ps_ret (pe_op op_mod (pe_op op_fdiv (pe_op op_mod (pe_op op_pow3 (pv 2) pe_int) pe_int) pe_int) (pv 1))))))), ?_⟩
    obtain ⟨a, e, t, hd, t0, t1⟩ := id D
    refine ⟨.ref d, rfl, d, _, 0, .int a, rfl, rfl, SqL.of hd, rfl, a, 0, rfl, rfl, _, rfl, ite2 (fun e1 => ?_) (fun e1 => ?_)⟩
    · refine ⟨.ref d, rfl, d, _, 0, .int a, rfl, rfl, SqL.of hd, rfl, .int b, rfl, a, b, rfl, rfl, hb0, ?_⟩
      refine ⟨.ref d, rfl, d, _, 0, .int a, rfl, rfl, SqL.of hd, rfl, .int b, rfl, a, b, rfl, rfl, ⟨hb0, hb1⟩, ?_⟩
      refine ⟨.ref d, rfl, d, _, 0, 0, rfl, rfl, hd, rfl, .int (a % b), rfl, q _ _ (Int.emod_nonneg _ (by omega)) (Int.emod_lt_of_pos _ hb0) ⟨a / b, e, t, upd_same, t0, by omega⟩ ?_⟩
      intro b' o e' n'
      rw [upd_ne n']
      exact e'
    · refine ⟨.ref d, rfl, d, _, 2, .int t, rfl, rfl, SqL.of hd, rfl, t, 1, rfl, rfl, ?_⟩
      refine ⟨.ref d, rfl, d, _, 2, 2, rfl, rfl, hd, rfl, ?_⟩
      have hd2 : (upd H d (.lst [V.int a, V.int e, V.int (t + 1)])) d = some (.lst [V.int a, V.int e, V.int (t + 1)]) := upd_same
      have fu : n ≤ 1000000000000 := hn
      have m0 := Int.emod_nonneg e (show (2147483629 : Int) ≠ 0 by decide)
      have m1 := Int.emod_lt_of_pos e (show (0 : Int) < 2147483629 by decide)
      have l0 := Int.emod_nonneg e (show (2147483587 : Int) ≠ 0 by decide)
      have l1 := Int.emod_lt_of_pos e (show (0 : Int) < 2147483587 by decide)
      refine ⟨.ref d, rfl, d, _, 1, .int e, rfl, rfl, SqL.of hd2, rfl, e, 2147483629, rfl, rfl, (by show (0 : Int) < 2147483629; decide), ?_⟩
      refine ⟨.ref d, rfl, d, _, 2, .int (t + 1), rfl, rfl, SqL.of hd2, rfl, 104729, t + 1, rfl, rfl, .inl ⟨by decide, by decide⟩, _, _, rfl, rfl, ?_⟩
      have f0 : 0 ≤ e % 2147483629 + 104729 * (t + 1) := by omega
      have f1 : e % 2147483629 + 104729 * (t + 1) < 1000000000000000000000 := by omega
      obtain ⟨F, hF⟩ : ∃ F, F = e % 2147483629 + 104729 * (t + 1) := ⟨_, rfl⟩
      rw [← hF] at f0 f1
      refine ⟨.int F, congrArg (fun z => some (some (V.int z))) hF.symm, .ref d, rfl, d, _, 1, .int e, rfl, rfl, SqL.of hd2, rfl, e, 2147483587, rfl, rfl, (by show (0 : Int) < 2147483587; decide), ?_⟩
      refine ⟨.ref d, rfl, d, _, 2, .int (t + 1), rfl, rfl, SqL.of hd2, rfl, 7919, t + 1, rfl, rfl, .inl ⟨by decide, by decide⟩, ?_⟩
      refine ⟨.ref d, rfl, d, _, 2, .int (t + 1), rfl, rfl, SqL.of hd2, rfl, _, _, rfl, rfl, mulx_ok (a := 64) (b := 64) (by omega) (by omega) (by decide), _, _, rfl, rfl, _, _, rfl, rfl, _, _, rfl, rfl, ?_⟩
      have g0 : 0 ≤ 7919 * (t + 1) * (t + 1) := Int.mul_nonneg (by omega) (by omega)
      have g1 : 7919 * (t + 1) * (t + 1) ≤ (7919 * 1000000000001) * 1000000000001 := Int.mul_le_mul (by omega) (by omega) (by omega) (by omega)
      generalize 7919 * (t + 1) * (t + 1) = G at g0 g1 ⊢
      refine ⟨mulx_ok (a := 100) (b := 100) (by omega) (by omega) (by decide), ?_⟩
      have h0 : 0 ≤ F * (e % 2147483587 + G + 11) := Int.mul_nonneg f0 (by omega)
      have h1 : F * (e % 2147483587 + G + 11) ≤ 1000000000000000000000 * 10000000000000000000000000000000 := Int.mul_le_mul (by omega) (by omega) (by omega) (by omega)
      obtain ⟨M, hM⟩ : ∃ M, M = F * (e % 2147483587 + G + 11) := ⟨_, rfl⟩
      rw [← hM] at h0 h1
      have big : M.natAbs < 2 ^ 1000 := by
        have : (1000000000000000000000 * 10000000000000000000000000000000 : Nat) < 2 ^ 1000 := by decide +kernel
        omega
      have mm0 := Int.emod_nonneg (M ^ 3) (show (2147483647 : Int) ≠ 0 by decide)
      have mm1 := Int.emod_lt_of_pos (M ^ 3) (show (0 : Int) < 2147483647 by decide)
      refine ⟨.int M, congrArg (fun z => some (some (V.int z))) hM.symm, M, 3, rfl, rfl, ⟨rfl, big⟩, _, _, rfl, rfl, (by show (0 : Int) < 2147483647; decide), _, _, rfl, rfl, ⟨by decide, by decide⟩, .int b, rfl, _, _, rfl, rfl, hb0, q _ _ (Int.emod_nonneg _ (by omega)) (Int.emod_lt_of_pos _ hb0) ⟨a, e, t + 1, hd2, by omega, by omega⟩ ?_⟩
      intro b' o e' n'
      rw [upd_ne n']
      exact e'
theorem ok_bg {f : Addr} {fd : FuncData} {k : Nat} (F : Fun K "_law_begun" "_law_begun" sBg f fd) (mx : mg "max" = none) : FnOk P w K mg base CX0 (k + 1) f fd ["cell", "k"] spBg := by
  refine F.ok scBg (fun vs H Q E h => ?_) (fun cdv A outer s H vs Q E hr h => ?_)
  · obtain ⟨c, k, rfl, _⟩ := h
    rfl
  · obtain ⟨c, k, rfl, k0, k1, q⟩ := h
    refine ⟨_, pss_one (ps_ret (pe_lst (pa_cons (pe_callB (call_max2 rfl) (by rfl) mx (by decide +kernel) (pa_cons pe_int (pa_cons (pe_op op_sub (pv 0) (pe_op op_pow pe_int pe_int)) pa_nil))) (pa_cons (pe_op op_add (pv 0) (pe_op op_mul pe_int (pv 1))) (pa_cons pe_int pa_nil))))), ?_⟩
    refine ⟨.int c, rfl, 10, 18, rfl, rfl, ⟨by decide, by decide, by decide⟩, c, _, rfl, rfl, 0, _, rfl, .int c, rfl, .int k, rfl, 977, k, rfl, rfl, .inl ⟨by decide, by decide⟩, c, _, rfl, rfl, by show 3 ≤ sizeLine; decide, fun l hl => ?_⟩
    exact q l _ hl (same_upd hl) ⟨_, _, 0, upd_same, Int.le_refl _, Int.le_refl _⟩
theorem ok_pk {f : Addr} {fd : FuncData} {k : Nat} (F : Fun K "_law_pick" "_law_pick" sPk f fd) (T : Tx mg) (fN : Addr) (fdN : FuncData) (GN : FnOk P w K mg base CX0 (k + 1) fN fdN ["draw", "below"] spNx) (mN : mg "_law_next" = some (.ref fN)) (kN : PySem.W.keepIn K (.ref fN) = true) (bN : Binds K fdN ["draw", "below"] []) : FnOk P w K mg base CX0 (k + 2) f fd ["draw", "some"] (spPk K) := by
  refine F.ok scPk (fun vs H Q E h => ?_) (fun cdv A outer s H vs Q E hr h => ?_)
  · obtain ⟨d, x, n, rfl, _⟩ := h
    rfl
  · obtain ⟨d, x, n, rfl, D, hn, h⟩ := h
    have hu := hu_of hr
    rcases h with ⟨l, xs, rfl, nl, hl, x0, x1, q⟩ | ⟨z, rfl, z0, z1, q⟩
    · refine ⟨_, pss_one (ps_ret (pe_ix ix_list (pv 1) (pe_call GN hr (by rfl) mN kN bN .nil pass0 (pa_cons (pv 0) (pa_cons (pe_callB call_len_seq (by rfl) T.len PySem.boot_len (pa_cons (pv 1) pa_nil)) pa_nil))) (fun _ _ => rfl))), ?_⟩
      refine ⟨.ref l, rfl, .ref d, rfl, .ref l, rfl, l, xs, rfl, .inl (SqL.of hl), d, (xs.length : Int), n, rfl, D, hn, by omega, by omega, fun m H1 m0 m1 D1 dn1 => ?_⟩
      obtain ⟨j, rfl⟩ := Int.eq_ofNat_of_zero_le m0
      have hj : j < xs.length := by omega
      have hx : xs[j]? = some xs[j] := List.getElem?_eq_getElem hj
      exact ⟨l, xs, (j : Int), xs[j], rfl, rfl, SqL.of (dn1 _ _ hl nl), atI_nat hx, q j _ H1 hx D1 dn1⟩
    · refine ⟨_, pss_one (ps_ret (pe_ix ix_str (pv 1) (pe_call GN hr (by rfl) mN kN bN .nil pass0 (pa_cons (pv 0) (pa_cons (pe_callB call_len_str (by rfl) T.len PySem.boot_len (pa_cons (pv 1) pa_nil)) pa_nil))) (fun _ _ => rfl))), ?_⟩
      have zs : z.length ≤ sizeLine := Nat.le_of_lt (small1000 z1)
      refine ⟨.str z, rfl, .ref d, rfl, .str z, rfl, z, rfl, zs, d, (z.length : Int), n, rfl, D, hn, by omega, by omega, fun m H1 m0 m1 D1 dn1 => ?_⟩
      obtain ⟨j, rfl⟩ := Int.eq_ofNat_of_zero_le m0
      have hj : j < z.cps.toList.length := by
        have : z.cps.toList.length = z.length := by simp [Str.length]
        omega
      have hx : z.cps.toList[j]? = some z.cps.toList[j] := List.getElem?_eq_getElem hj
      exact ⟨z, (j : Int), _, rfl, rfl, zs, atI_nat hx, q _ H1 (List.getElem_mem hj) D1 dn1⟩
end
end Dt
namespace Dt
open PySem PySem.Spec PyProof.Rows L2 L2X
open SX (S)
theorem map_at2 {α : Type} {f : α → V} {l : List α} {i : Nat} {x : V} (h : (l.map f)[i]? = some x) : ∃ a, l[i]? = some a ∧ x = f a := by
  rw [List.getElem?_map] at h
  cases e : l[i]? with
  | none =>
    rw [e] at h
    cases h
  | some z =>
    rw [e] at h
    exact ⟨z, rfl, (Option.some.inj h).symm⟩
theorem Grid.dn {H H' : Hp} {d g : Addr} {as : List Addr} {ls : List (List Nat)} (G : Grid H g as ls) (s : Do d H H') (ng : g ≠ d) (na : ∀ a ∈ as, a ≠ d) : Grid H' g as ls :=
  ⟨s _ _ G.top ng, G.len, fun i a l h1 h2 => s _ _ (G.row i a l h1 h2) (na a (List.mem_of_getElem? h1)), G.nd, G.off⟩
/-- rows under work, new since H0, the drawing list at d -/
structure GridD (d : Addr) (H0 H : Hp) (g : Addr) (as : List Addr) (ls : List (List Nat)) : Prop where
  gr : Grid H g as ls
  sm : Do d H0 H
  ng : H0 g = none
  nr : ∀ a ∈ as, H0 a = none
  gd : g ≠ d
  ad : ∀ a ∈ as, a ≠ d
theorem GridD.dn {d : Addr} {H0 H H' : Hp} {g : Addr} {as : List Addr} {ls : List (List Nat)} (G : GridD d H0 H g as ls) (s : Do d H H') : GridD d H0 H' g as ls := ⟨G.gr.dn s G.gd G.ad, G.sm.trans s, G.ng, G.nr, G.gd, G.ad⟩
theorem GridD.put {d : Addr} {H0 H : Hp} {g a : Addr} {as : List Addr} {ls : List (List Nat)} {r c x : Nat} {l : List Nat} (G : GridD d H0 H g as ls) (ha : as[r]? = some a) (hl : ls[r]? = some l) : GridD d H0 (upd H a (.lst ((l.map ch).set c (ch x)))) g as (ls.set r (l.set c x)) :=
  ⟨G.gr.put ha hl, G.sm.upd (G.nr a (List.mem_of_getElem? ha)), G.ng, G.nr, G.gd, G.ad⟩
theorem GridD.same' {d : Addr} {H0 H : Hp} {g E : Addr} {as : List Addr} {ls : List (List Nat)} {ys : List V} (G : GridD d H0 H g as ls) (n1 : g ≠ E) (n2 : ∀ a ∈ as, a ≠ E) (n3 : H0 E = none) : GridD d H0 (upd H E (.lst ys)) g as ls :=
  ⟨⟨by rw [upd_ne n1]; exact G.gr.top, G.gr.len, fun i a l h1 h2 => by rw [upd_ne (n2 a (List.mem_of_getElem? h1))]; exact G.gr.row i a l h1 h2, G.gr.nd, G.gr.off⟩, G.sm.upd n3, G.ng, G.nr, G.gd, G.ad⟩
theorem Grid.none {H : Hp} {g E : Addr} {as : List Addr} {ls : List (List Nat)} (G : Grid H g as ls) (hE : H E = none) : g ≠ E ∧ ∀ a ∈ as, a ≠ E := by
  refine ⟨fun e => ?_, fun a ha e => ?_⟩
  · have n1 := G.top
    rw [e, hE] at n1
    cases n1
  · subst e
    obtain ⟨j, hj⟩ := List.mem_iff_getElem?.mp ha
    have hlt : j < ls.length := by
      rw [← G.len]
      exact (List.getElem?_eq_some_iff.mp hj).1
    have n1 := G.row j _ _ hj (List.getElem?_eq_getElem hlt)
    rw [hE] at n1
    cases n1
theorem RowsR.put {high wide r c x : Nat} {ls : List (List Nat)} {l : List Nat} (R : RowsR high wide ls) (hl : ls[r]? = some l) (hx : x = 35 ∨ x = 46) : RowsR high wide (ls.set r (l.set c x)) := by
  refine ⟨by rw [List.length_set, R.len], fun m hm => ?_⟩
  rcases List.mem_or_eq_of_mem_set hm with q | q
  · exact R.row m q
  · subst q
    have rl := R.row l (List.mem_of_getElem? hl)
    refine ⟨by rw [List.length_set, rl.len], fun y hy => ?_⟩
    rcases List.mem_or_eq_of_mem_set hy with q2 | q2
    · exact rl.sg y q2
    · rw [q2]
      exact hx
theorem dot_hash (b : Bool) : ∃ c : Nat, (c = 35 ∨ c = 46) ∧ atI (".#" : Str).cps.toList (if b = true then 1 else 0) = some c := by
  cases b with
  | true => exact ⟨35, .inl rfl, by decide +kernel⟩
  | false => exact ⟨46, .inr rfl, by decide +kernel⟩
section
variable {P : Program} {w : World} {K : PySem.W.Frag} {mg : Str → Option Value} {base : Heap}
end
end Dt
/-! a range by steps, kept under a name and walked later -/
namespace L2X
open PySem PySem.Spec PyProof.Rows L2
def RngO (a : Addr) (i j c : Int) : HO := .ext fun h => ∃ t u v, IsRange h a i j c t u v
/-- i, i + c, .. below j: n of them -/
theorem rgC_pos {i j c : Int} {n : Nat} (hi : -1000000 ≤ i) (hi' : i ≤ 1000000) (hj : -1000000 ≤ j) (hj' : j ≤ 1000000) (hc : 1 ≤ c) (hc' : c ≤ 1000000) (h1 : ∀ k : Nat, k < n → i + k * c < j) (h2 : j ≤ i + n * c) : RgC i j c n := by
  have hs : Builtin.Range.rangeSize i j c = n := by
    unfold Builtin.Range.rangeSize
    rw [if_pos (by omega)]
    by_cases hlt : i < j
    · rw [if_pos hlt]
      have hn : 1 ≤ n := by
        rcases n with _ | n
        · simp at h2
          omega
        · omega
      have ha := h1 (n - 1) (by omega)
      have e1 : ((n - 1 : Nat) : Int) = (n : Int) - 1 := by omega
      rw [e1] at ha
      have hb : (n : Int) * c = ((n : Int) - 1) * c + c := by
        rw [Int.sub_mul, Int.one_mul]
        omega
      have q : (j - i - 1) / c = (n : Int) - 1 := by
        apply Int.le_antisymm
        · exact Int.le_of_lt_add_one (Int.ediv_lt_of_lt_mul (by omega) (by rw [show (n : Int) - 1 + 1 = n by omega]; omega))
        · exact (Int.le_ediv_iff_mul_le (by omega)).mpr (by omega)
      rw [q]
      omega
    · rw [if_neg hlt]
      rcases n with _ | n
      · rfl
      · have := h1 0 (by omega)
        simp at this
        omega
  have hn : (n : Int) ≤ 2000001 := by
    rcases n with _ | n
    · decide
    · have := h1 n (by omega)
      have h3 : (n : Int) * 1 ≤ n * c := Int.mul_le_mul_of_nonneg_left hc (by omega)
      omega
  refine ⟨by omega, by omega, ?_, hs⟩
  unfold Builtin.Range.small
  rw [hs, if_pos (by omega)]
  simp only [Builtin.Range.rangeFitsLong, Bool.and_eq_true, Bool.or_eq_true, decide_eq_true_eq]
  refine ⟨⟨⟨⟨⟨by omega, by omega⟩, by omega, by omega⟩, by omega, by omega⟩, by omega, by omega⟩, .inr ⟨by omega, by omega⟩⟩
section
variable {X : Cx}
theorem cr_range3 : CallR X (.type "range") (fun vs H Q => ∃ i j c, vs = [V.int i, V.int j, V.int c] ∧ c ≠ 0 ∧ c.natAbs < 1073741824 ∧ ∀ p, H p = none → Q (.ref p) (upd H p (RngO p i j c))) := by
  intro pins s σ H vs us Q I r h
  obtain ⟨i, j, c, rfl, c0, c1, q⟩ := h
  cases r with
  | cons r rr =>
    cases rr with
    | cons r' rr =>
      cases rr with
      | cons r'' rr =>
        cases rr
        obtain ⟨t, rfl⟩ := r
        obtain ⟨t', rfl⟩ := r'
        obtain ⟨t'', rfl⟩ := r''
        refine call_range_3 c0 ?_ (.inl (PyProof.noPylong_small c1))
        refine ⟨.ref s.heap.objs.size, upd H s.heap.objs.size (RngO s.heap.objs.size i j c), I.laid (t' := s.toks) (fun b o e => Heap.get?_push_of_some _ e) (Nat.le_refl _) ?_, rfl, q _ (I.hok.fresh (Nat.le_refl _))⟩
        refine ⟨⟨t, t', t'', Heap.get?_push_size _ rfl⟩, ⟨_, Heap.get?_push_size _ rfl⟩, ?_⟩
        rintro h1 h2 ⟨t1, u1, v1, e⟩ k
        exact ⟨t1, u1, v1, k _ e⟩
def iRngO (te : TE) : TI := fun σ H R => te σ H fun x H1 => ∃ (a : Addr) (i j c : Int) (n : Nat), x = .ref a ∧ H1 a = some (RngO a i j c) ∧ RgC i j c n ∧ R (Itc i c n) H1
theorem pi_rngO {tg e : Expr} {te : TE} (he : PE X e te) : PI X tg e (iRngO te) := by
  refine ⟨fun pins s σ H R I h => ?_⟩
  refine thn (he.run pins s σ H _ I h) fun v s1 ⟨x, H1, I1, r1, q1⟩ => ?_
  obtain ⟨a, i, j, k, n, e, hq, ⟨c0, c1, c2, c3⟩, q⟩ := q1
  subst e
  cases r1
  obtain ⟨⟨t, u, v, hr⟩, _, _⟩ := I1.hok _ _ hq
  refine wpAny_pyIter_range hr c2 ?_
  refine pi_one (tk := s1.toks) I1 _ (turn_rangeC _ i k n) ?_ q
  have e1 : i + ((0 : Nat) : Int) * k = i := by simp
  have e2 : (n : Int) - ((0 : Nat) : Int) = Builtin.Range.rangeSize i j k := by rw [c3]; simp
  show IsRangeIter _ _ (i + ((0 : Nat) : Int) * k) ((n : Int) - ((0 : Nat) : Int)) k
  rw [e1, e2]
  exact Heap.get?_push_size _ rfl
theorem lc_rangeC {lo c : Int} {n : Nat} {g : TG} {tt : TT} {te : TE} {vs : List Nat} {σ : L2.St} {H1 : Hp} {D : Addr} {Qd : Hp → Prop} (Pv : Nat → Hp → Prop) (h0 : Pv 0 (upd H1 D (.lst [])))
    (hs : ∀ i H, i < n → Pv i H → g (.int (lo + (i : Nat) * c)) (wipe σ vs) H fun σ2 H2 => wipe σ2 vs = wipe σ vs ∧ tt σ2 H2 fun b H3 =>
      if b = true then te σ2 H3 fun y H4 => ∃ acc, H4 D = some (.lst acc) ∧ acc.length < sizeLine ∧ Pv (i + 1) (upd H4 D (.lst (acc ++ [y]))) else Pv (i + 1) H3) (hd : ∀ H, Pv n H → Qd H) :
    ∃ W : Nat → Nat → Hp → Prop, (∃ m, W 0 m (upd H1 D (.lst []))) ∧ ∀ i m H, W i m H →
      ((Itc lo c n).stop i H ∧ Qd H) ∨ ((Itc lo c n).go i H ∧ ∃ Nx : Hp → Prop, (∀ H', Nx H' → ∃ m', m' < m ∧ W (i + 1) m' H') ∧ ∀ x H', (Itc lo c n).yld i H x H' → g x (wipe σ vs) H' fun σ2 H2 => wipe σ2 vs = wipe σ vs ∧ tt σ2 H2 fun b H3 =>
        if b = true then te σ2 H3 fun y H4 => ∃ acc, H4 D = some (.lst acc) ∧ acc.length < sizeLine ∧ Nx (upd H4 D (.lst (acc ++ [y]))) else Nx H3) := by
  refine ⟨fun i m H => m = n - i ∧ i ≤ n ∧ Pv i H, ⟨n, by simp, Nat.zero_le _, h0⟩, ?_⟩
  rintro i m H ⟨rfl, hi, p⟩
  by_cases hlt : i < n
  · refine .inr ⟨hlt, Pv (i + 1), fun H' p' => ⟨n - (i + 1), by omega, rfl, hlt, p'⟩, fun x H' y => ?_⟩
    obtain ⟨e, y⟩ := y
    subst e y
    exact hs i _ hlt p
  · have e : i = n := by omega
    subst e
    exact .inl ⟨Nat.le_refl _, hd H p⟩
end
end L2X
namespace Dt
open PySem PySem.Spec PyProof.Rows L2 L2X
open SX (S)
/-! ### pages that are drawn -/
abbrev sBk : Stmt := topS 30
theorem scBk : FnScope ["deep", "wide", "turn"] ["deep", "wide"] (defScope sBk) := ⟨rfl, rfl, rfl, by decide +kernel, rfl, by decide +kernel, by decide +kernel⟩
def spBk : Sp := fun vs H Q _ => ∃ deep wide : Nat, vs = [.int deep, .int wide] ∧ 1 ≤ deep ∧ deep ≤ 120 ∧ 1 ≤ wide ∧ wide ≤ 120 ∧
  ∀ (g : Addr) (as : List Addr) H', Same H H' → H g = none → (∀ a ∈ as, H a = none) → Grid H' g as (List.replicate deep (List.replicate wide 46)) → Q (.ref g) H'
abbrev sTd : Stmt := topS 31
theorem scTd : FnScope ["page", "line"] ["page"] (defScope sTd) := ⟨rfl, rfl, rfl, by decide +kernel, rfl, by decide +kernel, by decide +kernel⟩
def spTd : Sp := fun vs H Q _ => ∃ (g : Addr) (as : List Addr) (high wide : Nat) (ls : List (List Nat)), vs = [.ref g] ∧ Grid H g as ls ∧ RowsR high wide ls ∧ high ≤ 120 ∧ wide ≤ 120 ∧
  ∀ (p : Addr) H', Same H H' → H p = none → H' p = some (.tup (ls.map rv)) → Q (.ref p) H'
abbrev sPg : Stmt := topS 32
abbrev nPg : List Str := ["draw", "deep", "wide", "page", "way", "dense", "turn", "column", "top", "left", "down", "across", "at"]
theorem scPg : FnScope nPg ["draw"] (defScope sPg) := ⟨rfl, rfl, rfl, by decide +kernel, rfl, by decide +kernel, by decide +kernel⟩
def spPg : Sp := fun vs H Q _ => ∃ (d : Addr) (n : Nat), vs = [.ref d] ∧ Du H d n ∧ n + 20000 ≤ fuel ∧
  ∀ (p : Addr) (high wide : Nat) (rs : List (List Nat)) (H' : Hp), PicR high wide rs → high ≤ 30 → wide ≤ 50 → H p = none → H' p = some (.tup (rs.map rv)) → Du H' d (n + 20000) → Do d H H' → Q (.ref p) H'
theorem rep_ch (k : Nat) : (List.replicate k [V.str "."]).flatten = (List.replicate k 46).map ch := by
  induction k with
  | zero => rfl
  | succ k ih =>
    rw [List.replicate_succ, List.flatten_cons, ih, List.replicate_succ, List.map_cons, s_dot]
    rfl
theorem rows_white (deep wide : Nat) : RowsR deep wide (List.replicate deep (List.replicate wide 46)) := by
  refine ⟨List.length_replicate, fun l hl => ?_⟩
  rw [(List.mem_replicate.mp hl).2]
  exact ⟨List.length_replicate, fun c hc => .inr (List.mem_replicate.mp hc).2⟩
theorem GridD.add {d : Addr} {H0 H : Hp} {g a : Addr} {as : List Addr} {ls : List (List Nat)} {l : List Nat} {n : Nat} (G : GridD d H0 H g as ls) (D : Du H d n) (hn : H a = none) : GridD d H0 (upd (upd H a (.lst (l.map ch))) g (.lst (as.map V.ref ++ [V.ref a]))) g (as ++ [a]) (ls ++ [l]) := by
  have na := G.sm.nn D hn
  refine ⟨G.gr.add hn, (G.sm.upd na).upd G.ng, G.ng, fun b hb => ?_, G.gd, fun b hb => ?_⟩
  · rcases List.mem_append.mp hb with z | z
    · exact G.nr b z
    · rw [List.mem_singleton.mp z]
      exact na
  · rcases List.mem_append.mp hb with z | z
    · exact G.ad b z
    · rw [List.mem_singleton.mp z]
      exact D.new hn
theorem GridD.push {d : Addr} {H0 H : Hp} {g a : Addr} {as : List Addr} {ls : List (List Nat)} {l : List Nat} (G : GridD d H0 H g as ls) (ha : H a = some (.lst (l.map ch))) (na : H0 a = none) (ng : a ≠ g) (nd : a ≠ d) (nas : ∀ b ∈ as, b ≠ a) : GridD d H0 (upd H g (.lst (as.map V.ref ++ [V.ref a]))) g (as ++ [a]) (ls ++ [l]) := by
  refine ⟨⟨?_, ?_, fun i b m hb hm => ?_, ?_, ?_⟩, G.sm.upd G.ng, G.ng, fun b hb => ?_, G.gd, fun b hb => ?_⟩
  · rw [upd_same, List.map_append]
    rfl
  · rw [List.length_append, List.length_append, G.gr.len]
    rfl
  · have nbg : b ≠ g := by
      rintro rfl
      rcases List.mem_append.mp (List.mem_of_getElem? hb) with z | z
      · exact G.gr.off z
      · exact ng (List.mem_singleton.mp z).symm
    rw [upd_ne nbg]
    by_cases hi : i < as.length
    · rw [List.getElem?_append_left hi] at hb
      rw [List.getElem?_append_left (by rw [← G.gr.len]; exact hi)] at hm
      exact G.gr.row i b m hb hm
    · rw [List.getElem?_append_right (by omega)] at hb
      rw [List.getElem?_append_right (by rw [← G.gr.len]; omega), ← G.gr.len] at hm
      have e0 : i - as.length = 0 := by
        have := (List.getElem?_eq_some_iff.mp hb).1
        rw [List.length_singleton] at this
        omega
      rw [e0] at hb hm
      cases hb
      cases hm
      exact ha
  · refine List.nodup_append.mpr ⟨G.gr.nd, List.nodup_cons.mpr ⟨(fun h => nomatch h), List.nodup_nil⟩, fun x hx y hy => ?_⟩
    rw [List.mem_singleton.mp hy]
    exact nas x hx
  · intro h
    rcases List.mem_append.mp h with z | z
    · exact G.gr.off z
    · exact ng (List.mem_singleton.mp z).symm
  · rcases List.mem_append.mp hb with z | z
    · exact G.nr b z
    · rw [List.mem_singleton.mp z]
      exact na
  · rcases List.mem_append.mp hb with z | z
    · exact G.ad b z
    · rw [List.mem_singleton.mp z]
      exact nd
theorem RowsR.snoc {high wide : Nat} {ls : List (List Nat)} {l : List Nat} (R : RowsR high wide ls) (h : RowR wide l) : RowsR (high + 1) wide (ls ++ [l]) := by
  refine ⟨by rw [List.length_append, R.len]; rfl, fun m hm => ?_⟩
  rcases List.mem_append.mp hm with z | z
  · exact R.row m z
  · rw [List.mem_singleton.mp z]
    exact h
theorem pick3 {a b c j : Nat} {x : V} (h : [V.int (a : Int), V.int (b : Int), V.int (c : Int)][j]? = some x) : ∃ g : Nat, x = .int (g : Int) ∧ (g = a ∨ g = b ∨ g = c) := by
  rcases j with _ | _ | _ | j
  · cases h
    exact ⟨a, rfl, .inl rfl⟩
  · cases h
    exact ⟨b, rfl, .inr (.inl rfl)⟩
  · cases h
    exact ⟨c, rfl, .inr (.inr rfl)⟩
  · cases h
section
variable {P : Program} {w : World} {K : PySem.W.Frag} {mg : Str → Option Value} {base : Heap}
theorem ok_bk {f : Addr} {fd : FuncData} {k : Nat} (F : Fun K "_law_blank" "_law_blank" sBk f fd) (T : Tx mg) : FnOk P w K mg base CX0 (k + 1) f fd ["deep", "wide"] spBk := by
  refine F.ok scBk (fun vs H Q E h => ?_) (fun cdv A outer s H vs Q E hr h => ?_)
  · obtain ⟨deep, wide, rfl, _⟩ := h
    rfl
  · obtain ⟨deep, wide, rfl, d0, d1, w0, w1, q⟩ := h
    have nd := scBk.nd
    refine ⟨_, pss_one (ps_ret (pe_lc (own := [("turn", 2)]) (g := gName 2) (tt := tYes) rfl nd (pi_range1 rfl T.range (pa_cons (pv 0) pa_nil)) (blkOk_by (N := ["deep", "wide", "turn"]) (sc := defScope sBk) (by decide +kernel)) (fun _ _ _ _ _ => pg_name (i := 2) nd rfl (Or.inl rfl)) (fun _ _ _ _ _ => pts_nil)
      (fun _ _ _ _ _ => pe_op op_rep (pe_lst (pa_cons pe_str pa_nil)) (pv 1)))), ?_⟩
    refine ⟨.int deep, rfl, deep, rfl, by omega, by omega, fun D hD => lc_range (lo := 0) (n := deep) (fun i H3 => ∃ as, GridN H H3 D as (List.replicate i (List.replicate wide 46))) ?_ ?_ ?_⟩
    · exact ⟨[], ⟨upd_same, rfl, (fun i a l h => nomatch h), List.nodup_nil, (fun h => nomatch h)⟩, same_upd hD, hD, (fun a h => nomatch h)⟩
    · rintro i H3 hi ⟨as, G⟩
      refine ⟨rfl, by show 1 ≤ sizeLine; decide, fun l hl => ?_⟩
      have sl := same_upd (o := .lst [V.str "."]) hl
      have nl := G.gr.none hl
      have G2 := G.same sl
      refine ⟨.int wide, rfl, l, wide, [V.str "."], rfl, rfl, upd_same, by omega, by omega, ?_, fun r hr' => ?_⟩
      · rw [Int.toNat_natCast]
        show 1 * wide ≤ sizeLine
        have := small1000 (show wide ≤ 1000 by omega)
        omega
      · rw [Int.toNat_natCast, rep_ch]
        refine ⟨as.map V.ref, ?_, ?_, as ++ [r], ?_⟩
        · rw [upd_ne (ne_of_none G2.gr.top hr')]
          exact G2.gr.top
        · rw [List.length_map, G.gr.len, List.length_replicate]
          exact small1000 (by omega)
        · have e : List.replicate (i + 1) (List.replicate wide 46) = List.replicate i (List.replicate wide 46) ++ [List.replicate wide 46] := by
            rw [← List.replicate_append_replicate]
            rfl
          rw [e]
          exact G2.add hr'
    · rintro H3 ⟨as, G⟩
      exact q D as H3 G.sm hD G.nr G.gr
theorem ok_td {f : Addr} {fd : FuncData} {k : Nat} (F : Fun K "_law_told" "_law_told" sTd f fd) (T : Tx mg) : FnOk P w K mg base CX0 (k + 1) f fd ["page"] spTd := by
  refine F.ok scTd (fun vs H Q E h => ?_) (fun cdv A outer s H vs Q E hr h => ?_)
  · obtain ⟨g, as, high, wide, ls, rfl, _⟩ := h
    rfl
  · obtain ⟨g, as, high, wide, ls, rfl, G, R, h1, w1, q⟩ := h
    have nd := scTd.nd
    refine ⟨_, pss_one (ps_ret (pe_callTy call_tuple_of (by rfl) T.tuple (by decide +kernel) (pa_cons (pe_lc (own := [("line", 1)]) (g := gName 1) (tt := tYes) rfl nd (pi_list (pv 0)) (blkOk_by (N := ["page", "line"]) (sc := defScope sTd) (by decide +kernel)) (fun _ _ _ _ _ => pg_name (i := 1) nd rfl (Or.inl rfl)) (fun _ _ _ _ _ => pts_nil)
      (fun _ _ _ _ _ => pe_joinK (K := K) rfl pe_str (pv 1))) pa_nil))), ?_⟩
    have lh : as.length = high := by rw [G.len, R.len]
    refine ⟨.ref g, rfl, g, rfl, ⟨_, SqL.of G.top⟩, fun E hE => lc_list (K := K) (a := g) (xs := as.map V.ref) (fun i H6 => Same H H6 ∧ H6 E = some (.lst ((ls.take i).map rv))) ⟨same_upd hE, upd_same⟩ (fun i H6 _ z => SqL.of (z.1 _ _ G.top)) ?_ ?_⟩
    · rintro i x H6 hi ⟨sm, h6⟩
      obtain ⟨b, hb, rfl⟩ := map_at2 hi
      have hil : i < ls.length := by
        rw [← G.len]
        exact (List.getElem?_eq_some_iff.mp hb).1
      have e1 : ls[i]? = some ls[i] := List.getElem?_eq_getElem hil
      generalize ls[i] = l at e1
      have rl := R.row l (List.mem_of_getElem? e1)
      have h6b := sm _ _ (G.row i b l hb e1)
      refine ⟨rfl, ⟨"", rfl⟩, .ref b, rfl, "", b, l.map fun c => (⟨#[c]⟩ : Str), rfl, rfl, .inl (SqL.of ?_), ?_, ?_⟩
      · rw [h6b, List.map_map]
        rfl
      · rw [lens_rows]
        have := rl.len
        show l.length + _ * 0 ≤ 16777216
        omega
      · rw [join_row]
        refine ⟨_, h6, ?_, same_over sm hE, ?_⟩
        · rw [List.length_map, List.length_take]
          exact small1000 (by have := R.len; omega)
        · rw [upd_same, take_snoc e1, List.map_append]
          rfl
    · rintro H6 ⟨sm, h6⟩
      have e : ls.take (as.map V.ref).length = ls := List.take_of_length_le (by rw [List.length_map, G.len]; exact Nat.le_refl _)
      rw [e] at h6
      refine ⟨E, _, rfl, .inl ⟨SqL.of h6, fun p hp => ?_⟩⟩
      exact q p _ (sm.trans (same_upd hp)) (sm.free hp) upd_same
theorem ok_pg {f : Addr} {fd : FuncData} {k : Nat} (F : Fun K "_law_page" "_law_page" sPg f fd) (T : Tx mg) (mi : mg "min" = none) (GN : Pm P w K mg base CX0 (k + 2) "_law_next" ["draw", "below"] spNx) (GK : Pm P w K mg base CX0 (k + 2) "_law_pick" ["draw", "some"] (spPk K))
    (GB : Pm P w K mg base CX0 (k + 2) "_law_blank" ["deep", "wide"] spBk) (GT : Pm P w K mg base CX0 (k + 2) "_law_told" ["page"] spTd) : FnOk P w K mg base CX0 (k + 3) f fd ["draw"] spPg := by
  obtain ⟨fN, fdN, GN, mN, kN, bN⟩ := GN.ex
  obtain ⟨fK, fdK, GK, mK, kK, bK⟩ := GK.ex
  obtain ⟨fB, fdB, GB, mB, kB, bB⟩ := GB.ex
  obtain ⟨fT, fdT, GT, mT, kT, bT⟩ := GT.ex
  refine F.ok scPg (fun vs H Q E h => ?_) (fun cdv A outer s H vs Q E hr h => ?_)
  · obtain ⟨d, n, rfl, _⟩ := h
    rfl
  · obtain ⟨d, n, rfl, D, hn, q⟩ := h
    have nd := scPg.nd
    refine ⟨_, C8.pss_cut (ps_par (i := 1) (j := 2) (by rfl) nd rfl rfl (by decide) rfl rfl (pa_cons (pe_op op_add pe_int (pe_call GN hr (by rfl) mN kN bN .nil pass0 (pa_cons (pv 0) (pa_cons (pe_call GK hr (by rfl) mK kK bK .nil pass0 (pa_cons (pv 0) (pa_cons (pe_lst (pa_cons pe_int (pa_cons pe_int (pa_cons pe_int pa_nil)))) pa_nil))) pa_nil)))) (pa_cons (pe_op op_add pe_int (pe_call GN hr (by rfl) mN kN bN .nil pass0 (pa_cons (pv 0) (pa_cons (pe_call GK hr (by rfl) mK kK bK .nil pass0 (pa_cons (pv 0) (pa_cons (pe_lst (pa_cons pe_int (pa_cons pe_int (pa_cons pe_int pa_nil)))) pa_nil))) pa_nil)))) pa_nil)) (by rfl))
      (C8.pss_cut (ps_par (i := 3) (j := 4) (by rfl) nd rfl rfl (by decide) rfl rfl (pa_cons (pe_call GB hr (by rfl) mB kB bB .nil pass0 (pa_cons (pv 1) (pa_cons (pv 2) pa_nil))) (pa_cons (pe_call GN hr (by rfl) mN kN bN .nil pass0 (pa_cons (pv 0) (pa_cons pe_int pa_nil))) pa_nil)) (by rfl))
      (C8.pss_cut (ps_if (pt_cmpR op_eq (pv 4) pe_int (nomark _))
          (pss_cons (ps_set (i := 5) nd rfl (.inr rfl) (pe_op op_add pe_int (pe_call GN hr (by rfl) mN kN bN .nil pass0 (pa_cons (pv 0) (pa_cons pe_int pa_nil)))))
          (pss_cons (ps_set (i := 3) nd rfl (.inl rfl) (pe_lst pa_nil))
          (pss_one (ps_for PassesOwn.never rfl (pi_range1 rfl T.range (pa_cons (pv 1) pa_nil)) (pg_name (i := 6) nd rfl (.inl rfl))
            (pss_one (ps_expr (pe_bm PySem.F.plainAttrs_list PySem.F.slot_list_append PySem.F.type_list_append mt_append (pv 3) (pa_cons (pe_lc (own := [("column", 7)]) (g := gName 7) (tt := tYes) rfl nd (pi_range1 rfl T.range (pa_cons (pv 2) pa_nil)) (blkOk_by (N := nPg) (sc := defScope sPg) (by decide +kernel)) (fun _ _ _ _ _ => pg_name (i := 7) nd rfl (Or.inl rfl)) (fun _ _ _ _ _ => pts_nil)
              (fun _ _ _ _ _ => pe_ix ix_str pe_str (pe_callTy call_int1 (by rfl) T.int (by decide +kernel) (pa_cons (pe_cmpR op_lt (pe_call GN hr (by rfl) mN kN bN .nil pass0 (pa_cons (pv 0) (pa_cons pe_int pa_nil))) (pv 5) (nomark _)) pa_nil)) (fun _ _ => rfl))) pa_nil))))))))
          (pss_one (ps_for PassesOwn.never rfl (pi_range1 rfl T.range (pa_cons (pe_call GN hr (by rfl) mN kN bN .nil pass0 (pa_cons (pv 0) (pa_cons pe_int pa_nil))) pa_nil)) (pg_name (i := 6) nd rfl (.inl rfl))
            (pss_cons (ps_par (i := 8) (j := 9) (by rfl) nd rfl rfl (by decide) rfl rfl (pa_cons (pe_call GN hr (by rfl) mN kN bN .nil pass0 (pa_cons (pv 0) (pa_cons (pv 1) pa_nil))) (pa_cons (pe_call GN hr (by rfl) mN kN bN .nil pass0 (pa_cons (pv 0) (pa_cons (pv 2) pa_nil))) pa_nil)) (by rfl))
            (pss_cons (ps_par (i := 10) (j := 11) (by rfl) nd rfl rfl (by decide) rfl rfl (pa_cons (pe_op op_add pe_int (pe_call GN hr (by rfl) mN kN bN .nil pass0 (pa_cons (pv 0) (pa_cons pe_int pa_nil)))) (pa_cons (pe_op op_add pe_int (pe_call GN hr (by rfl) mN kN bN .nil pass0 (pa_cons (pv 0) (pa_cons pe_int pa_nil)))) pa_nil)) (by rfl))
            (pss_one (ps_for PassesOwn.never rfl (pi_range2 rfl T.range (pa_cons (pv 8) (pa_cons (pe_callB (call_min2 rfl) (by rfl) mi (by decide +kernel) (pa_cons (pv 1) (pa_cons (pe_op op_add (pv 8) (pv 10)) pa_nil))) pa_nil))) (pg_name (i := 12) nd rfl (.inl rfl))
              (pss_one (ps_for PassesOwn.never rfl (pi_range2 rfl T.range (pa_cons (pv 9) (pa_cons (pe_callB (call_min2 rfl) (by rfl) mi (by decide +kernel) (pa_cons (pv 2) (pa_cons (pe_op op_add (pv 9) (pv 11)) pa_nil))) pa_nil))) (pg_name (i := 7) nd rfl (.inl rfl))
                (pss_one (ps_asg pe_str (pg_sub (pe_ix ix_list (pv 3) (pv 12) (fun _ _ => rfl)) (pv 7) set_list))))))))))))
      (pss_one (ps_ret (pe_call GT hr (by rfl) mT kT bT .nil pass0 (pa_cons (pv 3) pa_nil)))))), ?_⟩
    have fu : n + 20000 ≤ 1000000000000 := hn
    refine ⟨fun σ' H' => ∃ deep wide : Nat, σ' = [some (.ref d), some (.int deep), some (.int wide), none, none, none, none, none, none, none, none, none, none] ∧ 1 ≤ deep ∧ deep ≤ 30 ∧ 1 ≤ wide ∧ wide ≤ 50 ∧ Du H' d (n + 4) ∧ Do d H H', ?_, ?_⟩
    · refine ⟨.ref d, rfl, .ref d, rfl, by show 3 ≤ sizeLine; decide, fun l1 hl1 => ⟨d, .ref l1, n, rfl, D.same (same_upd hl1), (by show _ ≤ 1000000000000; omega), .inl ⟨l1, _, rfl, D.new hl1, upd_same, by decide, by decide, fun j x H1 hx D1 dn1 => ?_⟩⟩⟩
      obtain ⟨g1, rfl, hg1⟩ := pick3 (a := 4) (b := 16) (c := 30) hx
      have dA := (Do.same (d := d) (same_upd (o := .lst [V.int 4, V.int 16, V.int 30]) hl1)).trans dn1
      refine ⟨d, g1, n + 1, rfl, D1, (by show _ ≤ 1000000000000; omega), by omega, by omega, fun m1 H2 a0 a1 D2 dn2 => ⟨1, m1, rfl, rfl, ?_⟩⟩
      obtain ⟨m1, rfl⟩ := Int.eq_ofNat_of_zero_le a0
      refine ⟨.ref d, rfl, .ref d, rfl, by show 3 ≤ sizeLine; decide, fun l2 hl2 => ⟨d, .ref l2, n + 2, rfl, D2.same (same_upd hl2), (by show _ ≤ 1000000000000; omega), .inl ⟨l2, _, rfl, D2.new hl2, upd_same, by decide, by decide, fun j2 x2 H3 hx2 D3 dn3 => ?_⟩⟩⟩
      obtain ⟨g2, rfl, hg2⟩ := pick3 (a := 4) (b := 24) (c := 50) hx2
      have dB := (Do.same (d := d) (same_upd (o := .lst [V.int 4, V.int 24, V.int 50]) hl2)).trans dn3
      refine ⟨d, g2, n + 3, rfl, D3, (by show _ ≤ 1000000000000; omega), by omega, by omega, fun m2 H4 b0 b1 D4 dn4 => ⟨1, m2, rfl, rfl, ?_⟩⟩
      obtain ⟨m2, rfl⟩ := Int.eq_ofNat_of_zero_le b0
      have e1 : (1 + (m1 : Int)) = ((1 + m1 : Nat) : Int) := by omega
      have e2 : (1 + (m2 : Int)) = ((1 + m2 : Nat) : Int) := by omega
      refine ⟨_, _, rfl, 1 + m1, 1 + m2, ?_, by omega, by omega, by omega, by omega, D4, (dA.trans dn2).trans (dB.trans dn4)⟩
      rw [← e1, ← e2]
      rfl
    rintro _ H1 ⟨deep, wide, rfl, d0, d1, w0, w1, D1, dn1⟩
    refine ⟨fun σ' H' => ∃ (g : Addr) (as : List Addr) (way : Int) (ls : List (List Nat)), σ' = [some (.ref d), some (.int deep), some (.int wide), some (.ref g), some (.int way), none, none, none, none, none, none, none, none] ∧ GridD d H H' g as ls ∧ RowsR deep wide ls ∧ Du H' d (n + 5), ?_, ?_⟩
    · refine ⟨.int deep, rfl, .int wide, rfl, deep, wide, rfl, d0, by omega, w0, by omega, fun g as H2 s2 ng nas G2 => ?_⟩
      have D2 := D1.same s2
      have nn : ∀ p, H1 p = none → H p = none := fun p hp => dn1.nn D1 hp
      have GD : GridD d H H2 g as (List.replicate deep (List.replicate wide 46)) := ⟨G2, dn1.trans (Do.same s2), nn g ng, fun a ha => nn a (nas a ha), D1.new ng, fun a ha => D1.new (nas a ha)⟩
      exact ⟨.ref d, rfl, d, 4, n + 4, rfl, D2, (by show _ ≤ 1000000000000; omega), by decide, by decide, fun way H3 _ _ D3 dn3 => ⟨_, _, rfl, g, as, way, _, rfl, GD.dn dn3, rows_white deep wide, D3⟩⟩
    rintro _ H2 ⟨g, as, way, ls, rfl, G2, R2, D2⟩
    refine ⟨fun σ' H' => ∃ (g : Addr) (as : List Addr) (ls : List (List Nat)) (y5 y6 y7 y8 y9 y10 y11 y12 : Option V), σ' = [some (.ref d), some (.int deep), some (.int wide), some (.ref g), some (.int way), y5, y6, y7, y8, y9, y10, y11, y12] ∧ GridD d H H' g as ls ∧ RowsR deep wide ls ∧ Du H' d (n + 19000), ?_, ?_⟩
    · refine ⟨.int way, rfl, rfl, _, rfl, ?_⟩
      cases decide (V.int way = V.int 0) with
      | true =>
        refine iteT ⟨.ref d, rfl, d, 30, n + 5, rfl, D2, (by show _ ≤ 1000000000000; omega), by decide, by decide, fun dn0 H3 _ _ D3 dn3 => ⟨1, dn0, rfl, rfl, by show 0 ≤ sizeLine; decide, fun p hp => ?_⟩⟩
        have G3 := G2.dn dn3
        have sp := same_upd (o := .lst []) hp
        have np : H p = none := G3.sm.nn D3 hp
        have GE : GridD d H (upd H3 p (.lst [])) p [] [] := ⟨⟨upd_same, rfl, (fun i a l h => nomatch h), List.nodup_nil, (fun h => nomatch h)⟩, G3.sm.trans (Do.same sp), np, (fun a h => nomatch h), D3.new hp, (fun a h => nomatch h)⟩
        refine ⟨.int deep, rfl, deep, rfl, by omega, by omega, for_range (lo := 0) (n := deep) (fun i σ H4 => ∃ (y6 : Option V) (as : List Addr) (ls : List (List Nat)), σ = [some (.ref d), some (.int deep), some (.int wide), some (.ref p), some (.int way), some (.int (1 + dn0)), y6, none, none, none, none, none, none] ∧ GridD d H H4 p as ls ∧ RowsR i wide ls ∧ Du H4 d (n + 6 + 200 * i)) ⟨none, [], [], rfl, GE, ⟨rfl, fun l h => nomatch h⟩, D3.same sp⟩ ?_ ?_⟩
        · rintro i σ H4 hi ⟨y6, as4, ls4, rfl, G4, R4, D4⟩
          refine ⟨.ref p, rfl, .inl ⟨rfl, _, SqL.of G4.gr.top⟩, .int wide, rfl, wide, rfl, by omega, by omega, fun Dd hDd => lc_range (lo := 0) (n := wide) (fun j H5 => ∃ cs : List Nat, cs.length = j ∧ (∀ c ∈ cs, c = 35 ∨ c = 46) ∧ H5 Dd = some (.lst (cs.map ch)) ∧ GridD d H H5 p as4 ls4 ∧ Du H5 d (n + 6 + 200 * i + j) ∧ Do d H4 H5) ?_ ?_ ?_⟩
          · have sD := same_upd (o := .lst []) hDd
            exact ⟨[], rfl, (fun _ h => nomatch h), upd_same, G4.dn (Do.same sD), D4.same sD, Do.same sD⟩
          · rintro j H5 hj ⟨cs, hcl, hcs, h5D, G5, D5, dn5⟩
            have nDd := D4.new hDd
            refine ⟨rfl, .ref d, rfl, d, 60, _, rfl, D5, (by show _ ≤ 1000000000000; omega), by decide, by decide, fun m H6 m0 m1 D6 dn6 => ⟨.int (1 + dn0), rfl, m, 1 + dn0, rfl, rfl, .inr ⟨_, rfl, ?_⟩⟩⟩
            obtain ⟨c, hc, hat⟩ := dot_hash (decide (m < 1 + dn0))
            refine ⟨".#", _, c, rfl, rfl, by decide +kernel, hat, ?_⟩
            have h6D := dn6 _ _ h5D nDd
            have G6 := G5.dn dn6
            have off := G4.gr.none hDd
            refine ⟨_, h6D, ?_, cs ++ [c], ?_, ?_, ?_, ?_, ?_, ?_⟩
            · rw [List.length_map]
              exact small1000 (by omega)
            · rw [List.length_append, hcl]
              rfl
            · intro y hy
              rcases List.mem_append.mp hy with z | z
              · exact hcs y z
              · rw [List.mem_singleton.mp z]
                exact hc
            · rw [upd_same, List.map_append]
              rfl
            · exact G6.same' off.1 off.2 (G4.sm.nn D4 hDd)
            · exact D6.upd nDd
            · exact (dn5.trans dn6).upd hDd
          · rintro H5 ⟨cs, hcl, hcs, h5D, G5, D5, dn5⟩
            have off := G4.gr.none hDd
            refine ⟨p, _, .ref Dd, rfl, rfl, G5.gr.top, ?_, ?_⟩
            · rw [List.length_map, G5.gr.len, R4.len]
              exact small1000 (by omega)
            · have nD : H Dd = none := G4.sm.nn D4 hDd
              exact ⟨_, as4 ++ [Dd], ls4 ++ [cs], rfl, G5.push h5D nD off.1.symm (D4.new hDd) off.2, R4.snoc ⟨hcl, hcs⟩, (D5.upd G5.gd).le (by omega)⟩
        · rintro σ H4 ⟨y6, as4, ls4, rfl, G4, R4, D4⟩
          exact ⟨p, as4, ls4, _, _, _, _, _, _, _, _, rfl, G4, R4, D4.le (by omega)⟩
      | false =>
        refine iteF ⟨.ref d, rfl, d, 12, n + 5, rfl, D2, (by show _ ≤ 1000000000000; omega), by decide, by decide, fun t H3 t0 t1 D3 dn3 => ⟨t, rfl, by omega, by omega, ?_⟩⟩
        refine for_range (lo := 0) (n := t.toNat) (fun i σ H4 => ∃ (y6 y7 y8 y9 y10 y11 y12 : Option V) (ls : List (List Nat)), σ = [some (.ref d), some (.int deep), some (.int wide), some (.ref g), some (.int way), none, y6, y7, y8, y9, y10, y11, y12] ∧ GridD d H H4 g as ls ∧ RowsR deep wide ls ∧ Du H4 d (n + 6 + 4 * i)) ⟨none, none, none, none, none, none, none, ls, rfl, G2.dn dn3, R2, D3⟩ ?_ ?_
        · rintro i σ H4 hi ⟨y6, y7, y8, y9, y10, y11, y12, ls4, rfl, G4, R4, D4⟩
          generalize (V.int (0 + (i : Int))) = tv
          refine ⟨.ref d, rfl, .int deep, rfl, d, deep, _, rfl, D4, (by show _ ≤ 1000000000000; omega), by omega, by omega, fun top H5 tp0 tp1 D5 dn5 => ⟨.ref d, rfl, .int wide, rfl, d, wide, _, rfl, D5, (by show _ ≤ 1000000000000; omega), by omega, by omega, fun left H6 l0 l1 D6 dn6 => ⟨_, _, rfl, ?_⟩⟩⟩
          refine ⟨.ref d, rfl, d, 5, _, rfl, D6, (by show _ ≤ 1000000000000; omega), by decide, by decide, fun dw H7 dw0 dw1 D7 dn7 => ⟨1, dw, rfl, rfl, .ref d, rfl, d, 9, _, rfl, D7, (by show _ ≤ 1000000000000; omega), by decide, by decide, fun ac H8 ac0 ac1 D8 dn8 => ⟨1, ac, rfl, rfl, _, _, rfl, ?_⟩⟩⟩
          have G8 := (((G4.dn dn5).dn dn6).dn dn7).dn dn8
          refine ⟨.int top, rfl, .int deep, rfl, .int top, rfl, .int (1 + dw), rfl, top, 1 + dw, rfl, rfl, deep, top + (1 + dw), rfl, top, _, rfl, ⟨by omega, by omega, by split <;> omega, by split <;> omega⟩, ?_⟩
          have hj : ∀ r : Nat, r < ((if top + (1 + dw) < (deep : Int) then top + (1 + dw) else (deep : Int)) - top).toNat → top + (r : Int) < deep := by
            intro r hr
            split at hr <;> omega
          refine for_range (lo := top) (fun r σ H9 => ∃ (y7 y12 : Option V) (ls : List (List Nat)), σ = [some (.ref d), some (.int deep), some (.int wide), some (.ref g), some (.int way), none, some tv, y7, some (.int top), some (.int left), some (.int (1 + dw)), some (.int (1 + ac)), y12] ∧ GridD d H H9 g as ls ∧ RowsR deep wide ls ∧ Du H9 d (n + 6 + 4 * i + 4)) ⟨y7, y12, ls4, rfl, G8, R4, D8.le (by omega)⟩ ?_ ?_
          · rintro r σ H9 hr ⟨y7, y12, ls9, rfl, G9, R9, D9⟩
            have hr2 := hj r hr
            refine ⟨.int left, rfl, .int wide, rfl, .int left, rfl, .int (1 + ac), rfl, left, 1 + ac, rfl, rfl, wide, left + (1 + ac), rfl, left, _, rfl, ⟨by omega, by omega, by split <;> omega, by split <;> omega⟩, ?_⟩
            have hk : ∀ c : Nat, c < ((if left + (1 + ac) < (wide : Int) then left + (1 + ac) else (wide : Int)) - left).toNat → left + (c : Int) < wide := by
              intro c hc
              split at hc <;> omega
            refine for_range (lo := left) (fun c σ H10 => ∃ (y7 : Option V) (ls : List (List Nat)), σ = [some (.ref d), some (.int deep), some (.int wide), some (.ref g), some (.int way), none, some tv, y7, some (.int top), some (.int left), some (.int (1 + dw)), some (.int (1 + ac)), some (.int (top + r))] ∧ GridD d H H10 g as ls ∧ RowsR deep wide ls ∧ Du H10 d (n + 6 + 4 * i + 4)) ⟨y7, ls9, rfl, G9, R9, D9⟩ ?_ ?_
            · rintro c σ H10 hc ⟨y7, ls10, rfl, G10, R10, D10⟩
              have hc2 := hk c hc
              obtain ⟨rn, er⟩ := Int.eq_ofNat_of_zero_le (show 0 ≤ top + (r : Int) by omega)
              obtain ⟨cn, ec⟩ := Int.eq_ofNat_of_zero_le (show 0 ≤ left + (c : Int) by omega)
              rw [er] at hr2 ⊢
              rw [ec] at hc2 ⊢
              have lh : as.length = deep := by rw [G10.gr.len, R10.len]
              have hr1 : rn < ls10.length := by rw [R10.len]; omega
              have e1 : ls10[rn]? = some ls10[rn] := List.getElem?_eq_getElem hr1
              generalize ls10[rn] = l at e1
              have rl := R10.row l (List.mem_of_getElem? e1)
              have hc1 : cn < l.length := by rw [rl.len]; omega
              have ha1 : rn < as.length := by omega
              have e3 : as[rn]? = some as[rn] := List.getElem?_eq_getElem ha1
              generalize as[rn] = b at e3
              have hb := G10.gr.row _ b l e3 e1
              have i1 : atI (as.map V.ref) (rn : Int) = some (.ref b) := atI_nat (by rw [List.getElem?_map, e3]; rfl)
              refine ⟨.ref g, rfl, .int rn, rfl, g, _, rn, .ref b, rfl, rfl, SqL.of G10.gr.top, i1, .int cn, rfl, b, _, cn, cn, rfl, rfl, hb, ixN_at (by rw [List.length_map]; exact hc1), _, ls10.set rn (l.set cn 35), rfl, ?_, R10.put e1 (.inl rfl), D10.upd (G10.ad b (List.mem_of_getElem? e3))⟩
              have z := G10.put (c := cn) (x := 35) e3 e1
              have e35 : ch 35 = V.str "#" := by rw [s_hash]; rfl
              rw [e35] at z
              exact z
            · rintro σ H10 ⟨y7, ls10, rfl, G10, R10, D10⟩
              exact ⟨_, _, ls10, rfl, G10, R10, D10⟩
          · rintro σ H9 ⟨y7, y12, ls9, rfl, G9, R9, D9⟩
            exact ⟨_, _, _, _, _, _, _, ls9, rfl, G9, R9, D9.le (by omega)⟩
        · rintro σ H4 ⟨y6, y7, y8, y9, y10, y11, y12, ls4, rfl, G4, R4, D4⟩
          exact ⟨g, as, ls4, _, _, _, _, _, _, _, _, rfl, G4, R4, D4.le (by omega)⟩
    rintro _ H3 ⟨g3, as3, ls3, y5, y6, y7, y8, y9, y10, y11, y12, rfl, G3, R3, D3⟩
    refine ⟨.ref g3, rfl, g3, as3, deep, wide, ls3, rfl, G3.gr, R3, by omega, by omega, fun p H4 s4 np hp => ?_⟩
    exact q p deep wide ls3 H4 ⟨R3.len, R3.row, d0, by omega, w0, by omega⟩ d1 w1 (G3.sm.nn D3 np) hp ((D3.same s4).le (by omega)) (G3.sm.trans (Do.same s4))
end
end Dt
namespace Dt
open PySem PySem.Spec PyProof.Rows L2 L2X
open SX (S)
open StX
/-! ### boxes of lines -/
/-- where the k-th line begins -/
def lnB (top lead far : Nat) (k : Nat) : Int := (top : Int) - lead + k * far
def lnF (top lead far : Nat) (k : Nat) : Int := if lnB top lead far k > top then lnB top lead far k else top
def lnE (top down tall lead far : Nat) (k : Nat) : Int := if lnB top lead far k + tall < (top : Int) + down then lnB top lead far k + tall else (top : Int) + down
def lnN (down lead far : Nat) : Nat := (down + lead + far - 1) / far
theorem lnN_lt {down lead far k : Nat} (f1 : 1 ≤ far) (h : k < lnN down lead far) : k * far < down + lead := by
  unfold lnN at h
  have h2 : (k + 1) * far ≤ down + lead + far - 1 := (Nat.le_div_iff_mul_le (by omega)).mp h
  rw [Nat.succ_mul] at h2
  omega
theorem lnN_le {down lead far : Nat} (f1 : 1 ≤ far) : down + lead ≤ lnN down lead far * far := by
  unfold lnN
  have h := Nat.lt_mul_div_succ (down + lead + far - 1) (show 0 < far by omega)
  rw [Nat.mul_add, Nat.mul_one, Nat.mul_comm] at h
  omega
structure LnOk (high wide : Nat) (top left down across tall far lead : Nat) : Prop where
  t : top + down ≤ high
  l : left + across ≤ wide
  d1 : 1 ≤ down
  a1 : 1 ≤ across
  h1 : 1 ≤ tall
  h9 : tall ≤ 9
  f1 : tall ≤ far
  f60 : far ≤ 60
  le : lead < tall
/-- what lies in the picture of the k-th line -/
structure LnK (top down tall lead far : Nat) (k : Nat) (fi n : Nat) : Prop where
  b : lnB top lead far k < (top : Int) + down
  f : lnF top lead far k = fi
  e : lnE top down tall lead far k = (fi : Int) + n
  n1 : 1 ≤ n
  n9 : n ≤ tall
  t0 : top ≤ fi
  t1 : fi + n ≤ top + down
theorem ln_k {high wide top left down across tall far lead k : Nat} (O : LnOk high wide top left down across tall far lead) (hk : k < lnN down lead far) : ∃ fi n, LnK top down tall lead far k fi n := by
  have h := lnN_lt (by have := O.h1; have := O.f1; omega) hk
  have h2 : (k : Int) * far < (down : Int) + lead := by
    have : ((k * far : Nat) : Int) < ((down + lead : Nat) : Int) := Int.ofNat_lt.mpr h
    rw [Int.natCast_mul, Int.natCast_add] at this
    exact this
  have h0 : (0 : Int) ≤ (k : Int) * far := Int.mul_nonneg (by omega) (by omega)
  have := O.le
  have := O.d1
  have := O.h1
  have hf : 0 ≤ lnF top lead far k := by
    unfold lnF lnB
    split <;> omega
  have hn : lnF top lead far k < lnE top down tall lead far k := by
    unfold lnF lnE lnB
    split <;> split <;> omega
  obtain ⟨fi, ef⟩ := Int.eq_ofNat_of_zero_le hf
  obtain ⟨n, en⟩ := Int.eq_ofNat_of_zero_le (show 0 ≤ lnE top down tall lead far k - lnF top lead far k by omega)
  refine ⟨fi, n, ⟨?_, ef, by omega, by omega, ?_, ?_, ?_⟩⟩
  · unfold lnB
    omega
  · have : lnE top down tall lead far k - lnF top lead far k ≤ tall := by
      unfold lnF lnE lnB
      split <;> split <;> omega
    omega
  · have : (top : Int) ≤ lnF top lead far k := by
      unfold lnF
      split <;> omega
    omega
  · have : lnE top down tall lead far k ≤ (top : Int) + down := by
      unfold lnE
      split <;> omega
    omega
/-- a row of signs has a dot -/
def hasD (rs : List (List Nat)) : Bool := rs.any fun l => decide (35 ∈ l)
/-- the k-th line's part, and whether it has a dot -/
def lnP (rs : List (List Nat)) (top left down across tall far lead : Nat) (k : Nat) : Bool :=
  hasD (cutR rs (lnF top lead far k).toNat left (lnE top down tall lead far k - lnF top lead far k).toNat across)
def lnX (top left down across tall far lead : Nat) (k : Nat) : List Int := [lnF top lead far k, left, lnE top down tall lead far k - lnF top lead far k, across]
def lnL (rs : List (List Nat)) (top left down across tall far lead : Nat) (k : Nat) : List (List Int) := ((List.range k).filter (lnP rs top left down across tall far lead)).map (lnX top left down across tall far lead)
theorem lnL_succ (rs : List (List Nat)) (top left down across tall far lead k : Nat) : lnL rs top left down across tall far lead (k + 1) = lnL rs top left down across tall far lead k ++ if lnP rs top left down across tall far lead k = true then [lnX top left down across tall far lead k] else [] := by
  unfold lnL
  rw [List.range_succ, List.filter_append, List.map_append, List.filter_cons, List.filter_nil]
  split <;> rfl
/-- tuples of whole numbers, in a row -/
structure Tin (K : PySem.W.Frag) (H : Hp) (xs : List V) (bs : List (List Int)) : Prop where
  len : xs.length = bs.length
  at_ : ∀ (i : Nat) (x : V) (b : List Int), xs[i]? = some x → bs[i]? = some b → ∃ t, x = .ref t ∧ H t = some (.tup (b.map V.int))
theorem Tin.same {K : PySem.W.Frag} {H H' : Hp} {xs : List V} {bs : List (List Int)} (h : Tin K H xs bs) (s : Same H H') : Tin K H' xs bs :=
  ⟨h.len, fun i x b a e => let ⟨t, e1, e2⟩ := h.at_ i x b a e; ⟨t, e1, s _ _ e2⟩⟩
theorem Tin.updl {K : PySem.W.Frag} {H : Hp} {xs : List V} {bs : List (List Int)} {l : Addr} {ys zs : List V} (h : Tin K H xs bs) (hl : H l = some (.lst ys)) : Tin K (upd H l (.lst zs)) xs bs :=
  ⟨h.len, fun i x b a e => let ⟨t, e1, e2⟩ := h.at_ i x b a e; ⟨t, e1, by rw [upd_ne (ne_of e2 hl (by intro z; cases z))]; exact e2⟩⟩
theorem Tin.nil {K : PySem.W.Frag} {H : Hp} : Tin K H [] [] := ⟨rfl, fun i x b h => nomatch h⟩
theorem Tin.add {K : PySem.W.Frag} {H : Hp} {xs : List V} {bs : List (List Int)} {t : Addr} {b : List Int} (h : Tin K H xs bs) (ht : H t = some (.tup (b.map V.int))) : Tin K H (xs ++ [.ref t]) (bs ++ [b]) := by
  refine ⟨by rw [List.length_append, List.length_append, h.len]; rfl, fun i y s' hy hs => ?_⟩
  by_cases hi : i < xs.length
  · rw [List.getElem?_append_left hi] at hy
    rw [List.getElem?_append_left (by rw [← h.len]; exact hi)] at hs
    exact h.at_ i y s' hy hs
  · rw [List.getElem?_append_right (by omega)] at hy
    rw [List.getElem?_append_right (by rw [← h.len]; omega), ← h.len] at hs
    have e0 : i - xs.length = 0 := by
      have := (List.getElem?_eq_some_iff.mp hy).1
      rw [List.length_singleton] at this
      omega
    rw [e0] at hy hs
    cases hy
    cases hs
    exact ⟨t, rfl, ht⟩
def iD (b : List Int) : PyData := .tuple (b.map .int)
theorem dp_ints {K : PySem.W.Frag} {H : Hp} : ∀ b : List Int, DpAll K H (b.map V.int) (b.map PyData.int)
  | [] => .nil
  | i :: r => .cons (.int i) (dp_ints r)
theorem dp_tin {K : PySem.W.Frag} {H : Hp} : ∀ {xs : List V} {bs : List (List Int)}, Tin K H xs bs → DpAll K H xs (bs.map iD)
  | [], [], _ => .nil
  | [], _ :: _, h => by have := h.len; simp at this
  | _ :: _, [], h => by have := h.len; simp at this
  | x :: xs, b :: bs, h => by
    obtain ⟨t, e, ht⟩ := h.at_ 0 x b rfl rfl
    subst e
    exact .cons (.tup (SqT.of ht) (dp_ints b)) (dp_tin ⟨Nat.succ.inj h.len, fun i y q a b => h.at_ (i + 1) y q a b⟩)
theorem lay_ints : ∀ b : List Int, PyData.canLayAll0 (b.map PyData.int) = true ∧ PyData.depthAll (b.map PyData.int) ≤ 1
  | [] => ⟨by simp [PyData.canLayAll0], by simp [PyData.depthAll]⟩
  | p :: r => by
    obtain ⟨h1, h2⟩ := lay_ints r
    refine ⟨?_, ?_⟩
    · rw [List.map_cons]
      simp [PyData.canLayAll0, PyData.canLay0, h1]
    · rw [List.map_cons]
      simp only [PyData.depthAll, PyData.depth]
      omega
theorem lay_tins : ∀ bs : List (List Int), PyData.canLayAll0 (bs.map iD) = true ∧ PyData.depthAll (bs.map iD) ≤ 3
  | [] => ⟨by simp [PyData.canLayAll0], by simp [PyData.depthAll]⟩
  | p :: r => by
    obtain ⟨h1, h2⟩ := lay_tins r
    obtain ⟨h3, h4⟩ := lay_ints p
    refine ⟨?_, ?_⟩
    · rw [List.map_cons]
      simp [PyData.canLayAll0, PyData.canLay0, iD, h1, h3]
    · rw [List.map_cons]
      simp only [PyData.depthAll, PyData.depth, iD]
      omega
theorem shaped_ints (b : List Int) : SeqAt.shaped (.list (b.map PyData.int)) = true := by
  obtain ⟨h1, h2⟩ := lay_ints b
  unfold SeqAt.shaped
  rw [Bool.and_eq_true, decide_eq_true_iff]
  refine ⟨by simp [PyData.canLay0, h1], ?_⟩
  simp only [PyData.depth]
  omega
theorem shaped_tins (bs : List (List Int)) : SeqAt.shaped (.list (bs.map iD)) = true := by
  obtain ⟨h1, h2⟩ := lay_tins bs
  unfold SeqAt.shaped
  rw [Bool.and_eq_true, decide_eq_true_iff]
  refine ⟨by simp [PyData.canLay0, h1], ?_⟩
  simp only [PyData.depth]
  omega
theorem eqv_ints : ∀ b : List Int, PyData.eqvAll (b.map PyData.int) (b.map PyData.int) = true
  | [] => by simp [PyData.eqvAll]
  | i :: r => by rw [List.map_cons]; simp [PyData.eqvAll, PyData.eqv, eqv_ints r]
theorem eqv_tins : ∀ bs : List (List Int), PyData.eqvAll (bs.map iD) (bs.map iD) = true
  | [] => by simp [PyData.eqvAll]
  | b :: r => by rw [List.map_cons]; simp [PyData.eqvAll, PyData.eqv, iD, eqv_ints b, eqv_tins r]
abbrev sHD : Stmt := topS 24
theorem scHD : FnScope ["rows", "row"] ["rows"] (defScope sHD) := ⟨rfl, rfl, rfl, by decide +kernel, rfl, by decide +kernel, by decide +kernel⟩
def spHD : Sp := fun vs H Q _ => ∃ (a : Addr) (rs : List (List Nat)), vs = [.ref a] ∧ H a = some (.tup (rs.map rv)) ∧ rs.length ≤ 120 ∧ ∀ H', Same H H' → Q (.bl (hasD rs)) H'
abbrev sLB : Stmt := topS 23
abbrev nLB : List Str := ["box", "start", "behind", "top", "left", "high", "wide", "first"]
theorem scLB : FnScope nLB ["box", "start", "behind"] (defScope sLB) := ⟨rfl, rfl, rfl, by decide +kernel, rfl, by decide +kernel, by decide +kernel⟩
def spLB : Sp := fun vs H Q _ => ∃ (t : Addr) (a b c d s e : Int), vs = [.ref t, .int s, .int e] ∧ H t = some (.tup [.int a, .int b, .int c, .int d]) ∧
  ∀ p H', Same H H' → H p = none → H' p = some (.tup [.int (if s > a then s else a), .int b, .int ((if e < a + c then e else a + c) - (if s > a then s else a)), .int d]) → Q (.ref p) H'
abbrev sWB : Stmt := topS 25
theorem scWB : FnScope ["picture", "thing"] ["picture", "thing"] (defScope sWB) := ⟨rfl, rfl, rfl, by decide +kernel, rfl, by decide +kernel, by decide +kernel⟩
def spWB : Sp := fun vs H Q _ => ∃ (a t : Addr) (high wide : Nat) (rs : List (List Nat)) (x y h w : Nat), vs = [.ref a, .ref t] ∧ H a = some (.tup (rs.map rv)) ∧ PicR high wide rs ∧ H t = some (.tup [.int x, .int y, .int h, .int w]) ∧ x + h ≤ high ∧ y + w ≤ wide ∧ 1 ≤ h ∧ 1 ≤ w ∧ ∀ H', Same H H' → Q .non H'
theorem strB_of {t m n : Nat} (h1 : 1 ≤ m) (h2 : t + m ≤ n) : strB (.int t) (.int m) (n : Int) = true := by
  show (decide (1 ≤ (m : Int)) && betw (.int t) 0 ((n : Int) - m)) = true
  rw [betw_int, decide_eq_true (by omega), decide_eq_true (by omega), decide_eq_true (by omega)]
  rfl
theorem passX0 {X : Cx} : Passes (L2.CX X.prog X.w) X E0 := fun _ _ _ _ _ _ _ h => by
  obtain ⟨_, _, _, _, _, _, _, _, _, _, _, _, z⟩ := h
  exact z.elim
section
variable {P : Program} {w : World} {K : PySem.W.Frag} {mg : Str → Option Value} {base : Heap} {C CP : Addr}
theorem ok_hd {f : Addr} {fd : FuncData} {k : Nat} (F : Fun K "_has_dots" "_has_dots" sHD f fd) (an : mg "any" = none) : FnOk P w K mg base CX0 (k + 1) f fd ["rows"] spHD := by
  refine F.ok scHD (fun vs H Q E h => ?_) (fun cdv A outer s H vs Q E hr h => ?_)
  · obtain ⟨a, rs, rfl, _⟩ := h
    rfl
  · obtain ⟨a, rs, rfl, ha, rl, q⟩ := h
    have nd := scHD.nd
    refine ⟨_, pss_one (ps_ret (pe_callB (cr_any rfl) (by rfl) an (by decide +kernel) (pa_cons (pe_lc (own := [("row", 1)]) (g := gName 1) (tt := tYes) rfl nd (pi_tup (pv 0)) (blkOk_by (N := ["rows", "row"]) (sc := defScope sHD) (by decide +kernel)) (fun _ _ _ _ _ => pg_name (i := 1) nd rfl (Or.inl rfl)) (fun _ _ _ _ _ => pts_nil)
        (fun _ _ _ _ _ => pe_cmpR op_in_sign pe_str (pv 1) (by with_unfolding_all rfl))) pa_nil))), ?_⟩
    refine ⟨.ref a, rfl, a, rfl, ⟨_, SqT.of ha⟩, fun D hD => lc_tup (K := K) (a := a) (xs := rs.map rv) (fun j H2 => Same H H2 ∧ H2 D = some (.lst (((rs.take j).map fun l => decide (35 ∈ l)).map V.bl))) ⟨same_upd hD, upd_same⟩ (fun j H2 _ z => SqT.of (z.1 _ _ ha)) ?_ ?_⟩
    · rintro j x H2 hj ⟨sm, h2⟩
      obtain ⟨l, hl, rfl⟩ := map_at2 hj
      have hlt := (List.getElem?_eq_some_iff.mp hl).1
      refine ⟨rfl, rv l, rfl, 35, S l, rfl, rfl, _, h2, ?_, same_over sm hD, ?_⟩
      · rw [List.length_map, List.length_map, List.length_take]
        exact small1000 (by omega)
      · rw [upd_same, take_snoc hl, List.map_append, List.map_append]
        rfl
    · rintro H2 ⟨sm, h2⟩
      rw [List.length_map, List.take_length] at h2
      refine ⟨D, _, rfl, SqL.of h2, ?_⟩
      have e : (rs.map fun l => decide (35 ∈ l)).any id = hasD rs := by
        unfold hasD
        rw [List.any_map]
        rfl
      rw [e]
      exact q H2 sm
theorem ok_lb {f : Addr} {fd : FuncData} {k : Nat} (F : Fun K "_line_box" "_line_box" sLB f fd) (mx : mg "max" = none) (mi : mg "min" = none) : FnOk P w K mg base CX0 (k + 1) f fd ["box", "start", "behind"] spLB := by
  refine F.ok scLB (fun vs H Q E h => ?_) (fun cdv A outer s H vs Q E hr h => ?_)
  · obtain ⟨t, _, _, _, _, _, _, rfl, _⟩ := h
    rfl
  · obtain ⟨t, a, b, c, d, s0, e0, rfl, ht, q⟩ := h
    have nd := scLB.nd
    refine ⟨_, pss_cons (ps_asg (pv 0) (pg_tup rfl (pgs_cons (pg_name (i := 3) nd rfl (Or.inl rfl)) (pgs_cons (pg_name (i := 4) nd rfl (Or.inl rfl)) (pgs_cons (pg_name (i := 5) nd rfl (Or.inl rfl)) (pgs_cons (pg_name (i := 6) nd rfl (Or.inl rfl)) pgs_nil))))))
      (pss_cons (ps_set (i := 7) nd rfl (.inl rfl) (pe_callB (call_max2 rfl) (by rfl) mx (by decide +kernel) (pa_cons (pv 3) (pa_cons (pv 1) pa_nil))))
      (pss_one (ps_ret (pe_tup (pa_cons (pv 7) (pa_cons (pv 4) (pa_cons (pe_op op_sub (pe_callB (call_min2 rfl) (by rfl) mi (by decide +kernel) (pa_cons (pe_op op_add (pv 3) (pv 5)) (pa_cons (pv 2) pa_nil))) (pv 7)) (pa_cons (pv 6) pa_nil)))))))), ?_⟩
    refine ⟨.ref t, rfl, t, _, rfl, SqT.of ht, rfl, _, _, rfl, _, _, rfl, _, _, rfl, _, _, rfl, rfl, ?_⟩
    refine ⟨.int a, rfl, .int s0, rfl, a, s0, rfl, _, rfl, .int b, rfl, .int a, rfl, .int c, rfl, a, c, rfl, rfl, .int e0, rfl, a + c, e0, rfl, _, rfl, _, _, rfl, rfl, .int d, rfl, by show 4 ≤ sizeLine; decide, fun p hp => ?_⟩
    exact q p _ (same_upd hp) hp upd_same
theorem ok_wb {f : Addr} {fd : FuncData} {k : Nat} (F : Fun K "_want_box" "_want_box" sWB f fd) (GW : GW P w K mg base C (k + 1)) (GU : Pm P w K mg base CX0 (k + 1) "is_tuple" ["thing", "many"] (spIsTup K)) (GC : Pm P w K mg base (L2.CX P w) (k + 1) "cut_out" ["picture", "top", "left", "high", "wide"] (spCut K CP)) :
    FnOk P w K mg base CX0 (k + 2) f fd ["picture", "thing"] spWB := by
  obtain ⟨fW, fdW, GW, mW, kW, bW⟩ := GW.ex
  obtain ⟨fU, fdU, GU, mU, kU, bU⟩ := GU.ex
  obtain ⟨fC, fdC, GC, mC, kC, bC⟩ := GC.ex
  refine F.ok scWB (fun vs H Q E h => ?_) (fun cdv A outer s H vs Q E hr h => ?_)
  · obtain ⟨a, t, _, _, _, _, _, _, _, rfl, _⟩ := h
    rfl
  · obtain ⟨a, t, high, wide, rs, x, y, h, w', rfl, ha, pr, ht, xh, yw, h1, w1, q⟩ := h
    have nd := scWB.nd
    refine ⟨_, pss_cons (ps_expr (pe_call GW hr (by rfl) mW kW bW .nil passX0 (pa_cons (pv 0) pa_nil)))
      (pss_cons (ps_if (pt_not (pt_val (pe_call GU hr (by rfl) mU kU bU .nil pass0 (pa_cons (pv 1) (pa_cons pe_int pa_nil))))) pss_never pss_nil)
      (pss_one (ps_expr (pe_callS2 (GC.raw bC .nil) hr kC (by rfl) mC passX0 (pa_cons (pv 0) (pa_star (pv 1) pa_nil)))))), ?_⟩
    refine ⟨.ref a, rfl, .ref a, true, rfl, askPic pr ha, fun _ H1 s1 => ?_, fun e => nomatch e⟩
    refine ⟨.ref t, rfl, .ref t, 4, rfl, .inr ⟨t, _, rfl, SqT.of (s1 _ _ ht), _, rfl, iteF ?_⟩⟩
    have hb : (strB (.int x) (.int h) high && strB (.int y) (.int w') wide) = true := by
      rw [strB_of h1 xh, strB_of w1 yw]
      rfl
    refine ⟨.ref a, rfl, .ref t, rfl, t, _, rfl, .inl (SqT.of (s1 _ _ ht)), a, high, wide, rs, .int x, .int y, .int h, .int w', rfl, s1 _ _ ha, pr, kt_int _, kt_int _, kt_int _, kt_int _, fun _ x' y' h' w'' e1 e2 e3 e4 _ _ _ _ p H2 s2 np hp => q H2 (s1.trans s2), fun e => ?_⟩
    rw [hb] at e
    cases e
end
end Dt
namespace Dt
open PySem PySem.Spec PyProof.Rows L2 L2X
open SX (S)
open StX
theorem pa_starK {X : Cx} {K : PySem.W.Frag} {e : Expr} {es : List Expr} {te : TE} {t : TA} {p : Pos} (hK : X.K = K) (he : PE X e te) (hr : PA X es t) (hs : starEach (.Starred e p :: es) X.env = (true, eval e X.env) :: starEach es X.env := by rfl) : PA X (.Starred e p :: es) (tStar K te t) := by
  subst hK
  exact pa_star he hr hs
/-! ### lines_of -/
abbrev sLO : Stmt := topS 22
abbrev nLO : List Str := ["picture", "box", "high", "pitch", "above", "top", "left", "rows", "wide", "starts", "lines", "start", "line"]
theorem scLO : FnScope nLO ["picture", "box", "high", "pitch", "above"] (defScope sLO) := ⟨rfl, rfl, rfl, by decide +kernel, rfl, by decide +kernel, by decide +kernel⟩
/-- the picture and the box -/
structure PB (H : Hp) (a t : Addr) (high wide : Nat) (rs : List (List Nat)) (top left down across : Nat) : Prop where
  p : H a = some (.tup (rs.map rv))
  pr : PicR high wide rs
  b : H t = some (.tup [.int top, .int left, .int down, .int across])
theorem PB.same {H H' : Hp} {a t : Addr} {high wide : Nat} {rs : List (List Nat)} {top left down across : Nat} (h : PB H a t high wide rs top left down across) (s : Same H H') : PB H' a t high wide rs top left down across := ⟨s _ _ h.p, h.pr, s _ _ h.b⟩
def spLO (K : PySem.W.Frag) : Sp := fun vs H Q _ => ∃ (a t : Addr) (high wide : Nat) (rs : List (List Nat)) (top left down across tall far lead : Nat), vs = [.ref a, .ref t, .int tall, .int far, .int lead] ∧ PB H a t high wide rs top left down across ∧ LnOk high wide top left down across tall far lead ∧
  ∀ (l : Addr) (xs : List V) H', Same H H' → H l = none → H' l = some (.lst xs) → Tin K H' xs (lnL rs top left down across tall far lead (lnN down lead far)) → Q (.ref l) H'
abbrev FnLO (K : PySem.W.Frag) (f : Addr) (fd : FuncData) : Prop := FunD K "lines_of" "lines_of" (defArgs sLO) (defBody sLO) (defScope sLO) [] [("above", .int 0)] f fd
theorem lo_binds3 {K : PySem.W.Frag} {f : Addr} {fd : FuncData} (F : FnLO K f fd) : ∃ mv : List Value, KBn K fd ["picture", "box", "high", "pitch", "above"] 2 ["high", "pitch", "above"] (fun us ws => us ++ ws ++ mv.take 0) (fun vs zs => vs ++ zs ++ ([] : List V)) := by
  obtain ⟨mv, h⟩ := F.kbinds0 (ps := ["picture", "box", "high", "pitch", "above"]) 2 ["high", "pitch", "above"] [] (fun us _ ws => us ++ ws) (by simp) (fun q h => nomatch h) (fun r _ z => r.append z)
    (fun D doc pm an cdv ct us mv ws h1 h2 h3 => match us, ws, mv, h1, h3, h2 with
      | [_, _], [_, _, _], [], _, _, _ => rfl)
  exact ⟨mv, ⟨fun s us ws X l1 l2 => by rw [List.take_zero, List.append_nil]; exact h.to s us ws X l1 l2, fun r z => by rw [List.take_zero, List.append_nil, List.append_nil]; exact h.rel r z⟩⟩
theorem lo_binds2 {K : PySem.W.Frag} {f : Addr} {fd : FuncData} (F : FnLO K f fd) : ∃ mv : List Value, KBn K fd ["picture", "box", "high", "pitch", "above"] 2 ["pitch", "high"] (fun us ws => us ++ ws.reverse ++ mv) (fun vs zs => vs ++ zs.reverse ++ [V.int 0]) := by
  obtain ⟨mv, h⟩ := F.kbinds0 (ps := ["picture", "box", "high", "pitch", "above"]) 2 ["pitch", "high"] [("above", V.int 0)] (fun us mv ws => us ++ ws.reverse ++ mv) (by simp) (fun q h => h) (fun r m z => (r.append z.reverse).append m)
    (fun D doc pm an cdv ct us mv ws h1 h2 h3 => match us, ws, mv, h1, h3, h2 with
      | [_, _], [_, _], [_], _, _, _ => ⟨_, _, _, _, _, _, rfl, rfl, rfl⟩)
  exact ⟨mv, h⟩
section
variable {P : Program} {w : World} {K : PySem.W.Frag} {mg : Str → Option Value} {base : Heap} {C CP : Addr}
theorem ok_lo {f : Addr} {fd : FuncData} {k : Nat} (F : FnLO K f fd) (T : Tx mg) (mh : ∃ t, mg "MOST_HIGH" = some (.int 9 t)) (mb : ∃ t, mg "MOST_BAND" = some (.int 60 t)) (GW : Pm P w K mg base CX0 (k + 1) "_want_box" ["picture", "thing"] spWB) (GB : Pm P w K mg base CX0 (k + 1) "is_between" ["thing", "least", "most"] (spBetw K))
    (GL : Pm P w K mg base CX0 (k + 1) "_line_box" ["box", "start", "behind"] spLB) (GH : Pm P w K mg base CX0 (k + 1) "_has_dots" ["rows"] spHD) (GC : Pm P w K mg base (L2.CX P w) (k + 1) "cut_out" ["picture", "top", "left", "high", "wide"] (spCut K CP)) :
    FnOk P w K mg base CX0 (k + 2) f fd ["picture", "box", "high", "pitch", "above"] (spLO K) := by
  obtain ⟨fW, fdW, GW, mW, kW, bW⟩ := GW.ex
  obtain ⟨fB, fdB, GB, mB, kB, bB⟩ := GB.ex
  obtain ⟨fL, fdL, GL, mL, kL, bL⟩ := GL.ex
  obtain ⟨fH, fdH, GH, mH, kH, bH⟩ := GH.ex
  obtain ⟨fC, fdC, GC, mC, kC, bC⟩ := GC.ex
  obtain ⟨th, hmh⟩ := mh
  obtain ⟨tb, hmb⟩ := mb
  refine F.ok scLO (fun vs H Q E h => ?_) (fun cdv A outer s H vs Q E hr h => ?_)
  · obtain ⟨a, t, _, _, _, _, _, _, _, _, _, _, rfl, _⟩ := h
    rfl
  · obtain ⟨a, t, high, wide, rs, top, left, down, across, tall, far, lead, rfl, pb, O, q⟩ := h
    have nd := scLO.nd
    refine ⟨_, pss_cons (ps_expr (pe_call GW hr (by rfl) mW kW bW .nil pass0 (pa_cons (pv 0) (pa_cons (pv 1) pa_nil))))
      (pss_cons (ps_if (PW.pt (pw_or (pt_not (pt_val (pe_call GB hr (by rfl) mB kB bB .nil pass0 (pa_cons (pv 2) (pa_cons pe_int (pa_cons (pe_glob (v := .int 9) (by rfl) hmh ⟨_, rfl⟩) pa_nil)))))) (pw_or1 (pt_not (pt_val (pe_call GB hr (by rfl) mB kB bB .nil pass0 (pa_cons (pv 3) (pa_cons (pv 2) (pa_cons (pe_glob (v := .int 60) (by rfl) hmb ⟨_, rfl⟩) pa_nil))))))))) pss_never pss_nil)
      (pss_cons (ps_if (pt_not (pt_val (pe_call GB hr (by rfl) mB kB bB .nil pass0 (pa_cons (pv 4) (pa_cons pe_int (pa_cons (pe_op op_sub (pv 2) pe_int) pa_nil)))))) pss_never pss_nil)
      (pss_cons (ps_asg (pv 1) (pg_tup rfl (pgs_cons (pg_name (i := 5) nd rfl (Or.inl rfl)) (pgs_cons (pg_name (i := 6) nd rfl (Or.inl rfl)) (pgs_cons (pg_name (i := 7) nd rfl (Or.inl rfl)) (pgs_cons (pg_name (i := 8) nd rfl (Or.inl rfl)) pgs_nil))))))
      (pss_cons (ps_set (i := 9) nd rfl (.inl rfl) (pe_callTy cr_range3 (by rfl) T.range (by decide +kernel) (pa_cons (pe_op op_sub (pv 5) (pv 4)) (pa_cons (pe_op op_add (pv 5) (pv 7)) (pa_cons (pv 3) pa_nil)))))
      (C8.pss_cut (ps_setLc (i := 10) (own := [("start", 11)]) (g := gName 11) (tt := tYes) (by rfl) nd rfl rfl (sw_true rfl rfl rfl (by decide +kernel)) (pi_rngO (pv 9)) (blkOk_by (N := nLO) (sc := defScope sLO) (by decide +kernel)) (fun _ _ _ _ _ => pg_name (i := 11) nd rfl (Or.inl rfl)) (fun _ _ _ _ _ => pts_nil)
          (fun _ _ _ _ _ => pe_call GL hr (by rfl) mL kL bL .nil pass0 (pa_cons (pv 1) (pa_cons (pv 11) (pa_cons (pe_op op_add (pv 11) (pv 2)) pa_nil)))))
      (pss_one (ps_ret (pe_lc (own := [("line", 12)]) (g := gName 12) rfl nd (pi_list (pv 10)) (blkOk_by (N := nLO) (sc := defScope sLO) (by decide +kernel)) (fun _ _ _ _ _ => pg_name (i := 12) nd rfl (Or.inl rfl))
          (fun _ _ _ _ _ => pts_one (pt_val (pe_call GH hr (by rfl) mH kH bH .nil pass0 (pa_cons (pe_callS2 (GC.raw bC .nil) hr kC (by rfl) mC passX0 (pa_cons (pv 0) (pa_starK (K := K) rfl (pv 12) pa_nil))) pa_nil)))) (fun _ _ _ _ _ => pv 12))))))))), ?_⟩
    have := O.h1
    have := O.h9
    have := O.f1
    have := O.f60
    have := O.le
    have := O.t
    have := O.l
    have := O.d1
    have := O.a1
    have := pb.pr.h1
    have := pb.pr.w1
    refine ⟨.ref a, rfl, .ref t, rfl, a, t, high, wide, rs, top, left, down, across, rfl, pb.p, pb.pr, pb.b, by omega, by omega, by omega, by omega, fun H1 s1 => ?_⟩
    have pb1 := pb.same s1
    have b1 : betw (.int tall) 1 9 = true := by
      rw [betw_int, decide_eq_true (by omega), decide_eq_true (by omega)]
      rfl
    have b2 : betw (.int far) tall 60 = true := by
      rw [betw_int, decide_eq_true (by omega), decide_eq_true (by omega)]
      rfl
    have b3 : betw (.int lead) 0 ((tall : Int) - 1) = true := by
      rw [betw_int, decide_eq_true (by omega), decide_eq_true (by omega)]
      rfl
    refine ⟨.int tall, rfl, .int tall, 1, 9, rfl, kt_int _, _, rfl, ?_⟩
    rw [b1]
    refine iteF ⟨.int far, rfl, .int tall, rfl, .int far, tall, 60, rfl, kt_int _, _, rfl, ?_⟩
    rw [b2]
    refine iteF ⟨.int lead, rfl, .int tall, rfl, tall, 1, rfl, rfl, .int lead, 0, _, rfl, kt_int _, _, rfl, ?_⟩
    rw [b3]
    refine iteF ⟨.ref t, rfl, t, _, rfl, SqT.of pb1.b, rfl, _, _, rfl, _, _, rfl, _, _, rfl, _, _, rfl, rfl, ?_⟩
    refine ⟨.int top, rfl, .int lead, rfl, top, lead, rfl, rfl, .int top, rfl, .int down, rfl, top, down, rfl, rfl, .int far, rfl, _, _, far, rfl, by omega, by omega, fun p hp => ?_⟩
    have sp := same_upd (o := RngO p ((top : Int) - lead) ((top : Int) + down) far) hp
    have pb2 := pb1.same sp
    have hp2 : (upd H1 p (RngO p ((top : Int) - lead) ((top : Int) + down) far)) p = some (RngO p ((top : Int) - lead) ((top : Int) + down) far) := upd_same
    have s12 := s1.trans sp
    generalize upd H1 p (RngO p ((top : Int) - lead) ((top : Int) + down) far) = H2 at sp pb2 hp2 s12 ⊢
    refine ⟨fun σ' H' => ∃ (l : Addr) (xs : List V), σ' = [some (.ref a), some (.ref t), some (.int tall), some (.int far), some (.int lead), some (.int top), some (.int left), some (.int down), some (.int across), some (.ref p), some (.ref l), none, none] ∧ Same H2 H' ∧ H' l = some (.lst xs) ∧ Tin K H' xs ((List.range (lnN down lead far)).map (lnX top left down across tall far lead)), ?_, ?_⟩
    · refine ⟨.ref p, rfl, p, _, _, far, lnN down lead far, rfl, hp2, rgC_pos (by omega) (by omega) (by omega) (by omega) (by omega) (by omega) (fun k hk => ?_) ?_, fun D hD => lc_rangeC (fun i H3 => ∃ xs, Same H2 H3 ∧ H3 D = some (.lst xs) ∧ Tin K H3 xs ((List.range i).map (lnX top left down across tall far lead))) ⟨[], same_upd hD, upd_same, Tin.nil⟩ ?_ ?_⟩
      · have h := lnN_lt (lead := lead) (down := down) (by omega) hk
        have h2 : (k : Int) * far < (down : Int) + lead := by
          have : ((k * far : Nat) : Int) < ((down + lead : Nat) : Int) := Int.ofNat_lt.mpr h
          rw [Int.natCast_mul, Int.natCast_add] at this
          exact this
        omega
      · have h := lnN_le (lead := lead) (down := down) (show 1 ≤ far by omega)
        have h2 : (down : Int) + lead ≤ (lnN down lead far : Int) * far := by
          have : ((down + lead : Nat) : Int) ≤ ((lnN down lead far * far : Nat) : Int) := Int.ofNat_le.mpr h
          rw [Int.natCast_mul, Int.natCast_add] at this
          exact this
        omega
      · rintro i H3 hi ⟨xs, sm, h3, tn⟩
        refine ⟨rfl, .ref t, rfl, .int ((top : Int) - lead + i * far), rfl, .int ((top : Int) - lead + i * far), rfl, .int tall, rfl, _, _, rfl, rfl, t, _, _, _, _, _, _, rfl, sm _ _ pb2.b, fun z H4 s4 nz hz => ⟨xs, s4 _ _ h3, ?_, xs ++ [.ref z], ?_, upd_same, ?_⟩⟩
        · rw [tn.len, List.length_map, List.length_range]
          have h := lnN_lt (lead := lead) (down := down) (show 1 ≤ far by omega) hi
          have h0 : i * 1 ≤ i * far := Nat.mul_le_mul_left _ (by omega)
          exact small1000 (by omega)
        · exact same_over (sm.trans s4) hD
        · have nzD : z ≠ D := (ne_of_none h3 nz).symm
          rw [List.range_succ, List.map_append]
          refine Tin.add ((tn.same s4).updl (s4 _ _ h3)) ?_
          rw [upd_ne nzD]
          exact hz
      · rintro H3 ⟨xs, sm, h3, tn⟩
        exact ⟨D, xs, rfl, sm, h3, tn⟩
    rintro _ H3 ⟨l, xs, rfl, s3, hl, tn⟩
    have pb3 := pb2.same s3
    have lx : xs.length = lnN down lead far := by rw [tn.len, List.length_map, List.length_range]
    refine ⟨.ref l, rfl, l, rfl, ⟨_, SqL.of hl⟩, fun D hD => lc_list (K := K) (a := l) (xs := xs) (fun i H4 => ∃ ys, Same H3 H4 ∧ H4 D = some (.lst ys) ∧ ys.length ≤ i ∧ Tin K H4 ys (lnL rs top left down across tall far lead i)) ⟨[], same_upd hD, upd_same, Nat.le_refl _, Tin.nil⟩ (fun i H4 _ z => by
      obtain ⟨_, sm, _⟩ := z
      exact SqL.of (sm _ _ hl)) ?_ ?_⟩
    · rintro i x H4 hx ⟨ys, sm, h4, ly, ty⟩
      have hi : i < lnN down lead far := by
        rw [← lx]
        exact (List.getElem?_eq_some_iff.mp hx).1
      obtain ⟨z, rfl, hz⟩ := tn.at_ i x (lnX top left down across tall far lead i) hx (by rw [List.getElem?_map, List.getElem?_range hi]; rfl)
      obtain ⟨fi, n, L⟩ := ln_k O hi
      have ef := L.f
      have ee := L.e
      have := L.n1
      have := L.t0
      have := L.t1
      have ex : lnX top left down across tall far lead i = [(fi : Int), (left : Int), (n : Int), (across : Int)] := by
        unfold lnX
        rw [ef, ee, show (fi : Int) + n - fi = n by omega]
      rw [ex] at hz
      have ep : lnP rs top left down across tall far lead i = hasD (cutR rs fi left n across) := by
        unfold lnP
        rw [ef, ee, show ((fi : Int) + n - fi).toNat = n by omega, Int.toNat_natCast]
      have hb : (strB (.int fi) (.int n) high && strB (.int left) (.int across) wide) = true := by
        rw [strB_of (by omega) (by omega), strB_of (by omega) (by omega)]
        rfl
      have hz4 := sm _ _ hz
      refine ⟨rfl, .ref a, rfl, .ref z, rfl, z, _, rfl, .inl (SqT.of hz4), a, high, wide, rs, .int fi, .int left, .int n, .int across, rfl, sm _ _ pb3.p, pb3.pr, kt_int _, kt_int _, kt_int _, kt_int _, fun _ x1 x2 x3 x4 e1 e2 e3 e4 _ _ _ _ p5 H5 s5 np5 hp5 => ?_, fun e => ?_⟩
      · cases e1
        cases e2
        cases e3
        cases e4
        refine ⟨p5, _, rfl, hp5, ?_, fun H6 s6 => ⟨_, rfl, ?_⟩⟩
        · unfold cutR
          rw [List.length_map, List.length_take]
          omega
        have s56 := s5.trans s6
        rw [← ep]
        have es := lnL_succ rs top left down across tall far lead i
        cases ec : lnP rs top left down across tall far lead i with
        | true =>
          rw [ec, if_pos rfl] at es
          refine iteT ⟨.ref z, rfl, ys, s56 _ _ h4, small1000 (by have h := lnN_lt (lead := lead) (down := down) (show 1 ≤ far by omega) hi; have h0 : i * 1 ≤ i * far := Nat.mul_le_mul_left _ (by omega); omega), ys ++ [.ref z], same_over (sm.trans s56) hD, upd_same, by rw [List.length_append]; exact Nat.add_le_add_right ly 1, ?_⟩
          rw [es]
          refine Tin.add ((ty.same s56).updl (s56 _ _ h4)) ?_
          rw [upd_ne (ne_of (s56 _ _ hz4) (s56 _ _ h4) (by intro z; cases z)), ex]
          exact s56 _ _ hz4
        | false =>
          rw [ec, if_neg (by decide), List.append_nil] at es
          refine iteF ⟨ys, sm.trans s56, s56 _ _ h4, Nat.le_succ_of_le ly, ?_⟩
          rw [es]
          exact ty.same s56
      · rw [hb] at e
        cases e
    · rintro H4 ⟨ys, sm, h4, ly, ty⟩
      rw [lx] at ty
      exact q D ys H4 ((s12.trans s3).trans sm) ((s12.trans s3).free hD) h4 ty
end
end Dt
namespace L2X
open PySem PySem.Spec PyProof.Rows L2
theorem op_neDK {X : Cx} {K : PySem.W.Frag} (hK : X.K = K) (hu : X.A.units + 64 < cLine) : OpR X (compareOp .NotEq) (rNeD K) := by
  subst hK
  exact op_neD hu
end L2X
namespace Dt
open PySem PySem.Spec PyProof.Rows L2 L2X
open SX (S)
open StX
abbrev sDue : Stmt := topS 34
abbrev nDue : List Str := ["picture", "box", "tall", "far", "lead", "top", "left", "down", "across", "found", "begin", "inside", "at"]
theorem scDue : FnScope nDue ["picture", "box", "tall", "far", "lead"] (defScope sDue) := ⟨rfl, rfl, rfl, by decide +kernel, rfl, by decide +kernel, by decide +kernel⟩
theorem ne_ints {b : List Int} (h : b ≠ []) : (!PyData.eqv (.list (b.map PyData.int)) (.list [])) = true := by
  cases b with
  | nil => exact absurd rfl h
  | cons i r => simp [PyData.eqv, PyData.eqvAll]
/-- so many rows from one on -/
def insI (fi n : Nat) : List Int := (List.range n).map fun x : Nat => ((fi + x : Nat) : Int)
theorem insI_succ (fi n : Nat) : insI fi (n + 1) = insI fi n ++ [((fi + n : Nat) : Int)] := by
  unfold insI
  rw [List.range_succ, List.map_append]
  rfl
theorem insI_len (fi n : Nat) : (insI fi n).length = n := by
  unfold insI
  rw [List.length_map, List.length_range]
theorem insI_at {fi n j : Nat} (h : j < n) : (insI fi n)[j]? = some ((fi + j : Nat) : Int) := by
  unfold insI
  rw [List.getElem?_map, List.getElem?_range h]
  rfl
theorem any_part (rs : List (List Nat)) (fi l n a : Nat) (h : fi + n ≤ rs.length) : ((List.range n).map fun j => decide (35 ∈ ((rs.getD (fi + j) []).drop l).take a)).any id = hasD (cutR rs fi l n a) := by
  unfold hasD cutR
  rw [List.any_map, List.any_map]
  have e : (rs.drop fi).take n = (List.range n).map fun j => rs.getD (fi + j) [] := by
    apply List.ext_getElem
    · rw [List.length_take, List.length_drop, List.length_map, List.length_range]
      omega
    · intro i h1 h2
      rw [List.getElem_take, List.getElem_drop, List.getElem_map, List.getElem_range]
      rw [List.length_map, List.length_range] at h2
      rw [List.getD_eq_getElem?_getD, List.getElem?_eq_getElem (by omega)]
      rfl
  rw [e, List.any_map]
  rfl
/-- how many rows of the k-th line lie within, among so many -/
def insM (top down : Nat) (b : Int) (fi i : Nat) : Nat := ((if b + (i : Int) < (top : Int) + down then b + (i : Int) else (top : Int) + down) - fi).toNat
/-- what stands at each turn of the law's own going through -/
def DueW (K : PySem.W.Frag) (H0 : Hp) (a t D : Addr) (rs : List (List Nat)) (top left down across tall far lead : Nat) : Nat → L2.St → Hp → Prop := fun m σ H => ∃ (k : Nat) (y11 : Option V) (xs : List V), m = lnN down lead far - k ∧ k ≤ lnN down lead far ∧
  σ = [some (.ref a), some (.ref t), some (.int tall), some (.int far), some (.int lead), some (.int top), some (.int left), some (.int down), some (.int across), some (.ref D), some (.int (lnB top lead far k)), y11, none] ∧ Do D H0 H ∧ H D = some (.lst xs) ∧ xs.length ≤ k ∧ Tin K H xs (lnL rs top left down across tall far lead k)
theorem lnN_big {down lead far : Nat} (f1 : 1 ≤ far) : lnN down lead far ≤ down + lead := by
  rcases Nat.eq_zero_or_pos (lnN down lead far) with h | h
  · omega
  · have h2 := lnN_lt f1 (show lnN down lead far - 1 < lnN down lead far by omega)
    have h3 : (lnN down lead far - 1) * 1 ≤ (lnN down lead far - 1) * far := Nat.mul_le_mul_left _ f1
    omega
section
variable {P : Program} {w : World} {K : PySem.W.Frag} {mg : Str → Option Value} {base : Heap} {C CP : Addr}
theorem ok_due {f : Addr} {fd : FuncData} {k : Nat} (F : Fun K "_law_due" "_law_due" sDue f fd) (T : Tx mg) (an : mg "any" = none) : FnOk P w K mg base CX0 (k + 1) f fd ["picture", "box", "tall", "far", "lead"] (spLO K) := by
  refine F.ok scDue (fun vs H Q E h => ?_) (fun cdv A outer s H vs Q E hr h => ?_)
  · obtain ⟨a, t, _, _, _, _, _, _, _, _, _, _, rfl, _⟩ := h
    rfl
  · obtain ⟨a, t, high, wide, rs, top, left, down, across, tall, far, lead, rfl, pb, O, q⟩ := h
    have nd := scDue.nd
    refine ⟨_, pss_cons (ps_asg (pv 1) (pg_tup rfl (pgs_cons (pg_name (i := 5) nd rfl (Or.inr rfl)) (pgs_cons (pg_name (i := 6) nd rfl (Or.inr rfl)) (pgs_cons (pg_name (i := 7) nd rfl (Or.inr rfl)) (pgs_cons (pg_name (i := 8) nd rfl (Or.inr rfl)) pgs_nil))))))
      (pss_cons (ps_par (i := 9) (j := 10) (by rfl) nd rfl rfl (by decide) rfl rfl (pa_cons (pe_lst pa_nil) (pa_cons (pe_op op_sub (pv 5) (pv 4)) pa_nil)) (by rfl))
      (pss_cons (ps_while PassesOwn.never (pt_cmpR op_lt (pv 10) (pe_op op_add (pv 5) (pv 7)) (nomark _))
        (C8.pss_cut (ps_setLc (i := 11) (own := [("at", 12)]) (g := gName 12) (by rfl) nd rfl rfl (sw_true rfl rfl rfl (by decide +kernel)) (pi_range2 rfl T.range (pa_cons (pv 10) (pa_cons (pe_op op_add (pv 10) (pv 2)) pa_nil))) (blkOk_by (N := nDue) (sc := defScope sDue) (by decide +kernel)) (fun _ _ _ _ _ => pg_name (i := 12) nd rfl (Or.inl rfl))
            (fun _ _ _ _ _ => pts_one (pt_chain op_le op_lt (pv 5) (pv 12) (pe_op op_add (pv 5) (pv 7)))) (fun _ _ _ _ _ => pv 12))
        (C8.pss_cut (ps_if (PW.pt (pw_and (pt_cmpR (op_neD hr.units) (pv 11) (pe_lst pa_nil) (nomark _)) (pw_and1 (pt_val (pe_callB (cr_any rfl) (by rfl) an (by decide +kernel) (pa_cons (pe_lc (own := [("at", 12)]) (g := gName 12) (tt := tYes) rfl nd (pi_list (pv 11)) (blkOk_by (N := nDue) (sc := defScope sDue) (by decide +kernel)) (fun _ _ _ _ _ => pg_name (i := 12) nd rfl (Or.inl rfl)) (fun _ _ _ _ _ => pts_nil)
              (fun _ _ _ _ _ => pe_cmpR op_in_sign pe_str (pe_slice sl_str (pe_ix (r := rIxT K) ix_tup (pv 0) (pv 12) (fun _ _ => rfl)) (po_some (pv 6)) (po_some (pe_op op_add (pv 6) (pv 8)))) (by with_unfolding_all rfl))) pa_nil))))))
            (pss_one (ps_expr (pe_bm PySem.F.plainAttrs_list PySem.F.slot_list_append PySem.F.type_list_append mt_append (pv 9) (pa_cons (pe_tup (pa_cons (pe_ix ix_list (pv 11) pe_int (fun _ _ => rfl)) (pa_cons (pv 6) (pa_cons (pe_callB call_len_seq (by rfl) T.len PySem.boot_len (pa_cons (pv 11) pa_nil)) (pa_cons (pv 8) pa_nil))))) pa_nil)))) pss_nil)
        (pss_one (ps_set (i := 10) nd rfl (.inl rfl) (pe_op op_add (pv 10) (pv 3)))))))
      (pss_one (ps_ret (pv 9))))), ?_⟩
    have := O.h1
    have := O.h9
    have := O.f1
    have := O.f60
    have := O.le
    have := O.t
    have := O.l
    have := O.d1
    have := O.a1
    have := pb.pr.h1
    have := pb.pr.w1
    have hlen := pb.pr.len
    refine ⟨.ref t, rfl, t, _, rfl, SqT.of pb.b, rfl, _, _, rfl, _, _, rfl, _, _, rfl, _, _, rfl, rfl, ?_⟩
    refine ⟨by show 0 ≤ sizeLine; decide, fun D hD => ⟨.int top, rfl, .int lead, rfl, top, lead, rfl, rfl, _, _, rfl, ?_⟩⟩
    have sD := same_upd (o := .lst []) hD
    have e0 : lnB top lead far 0 = (top : Int) - lead := by
      unfold lnB
      simp
    refine ⟨DueW K H a t D rs top left down across tall far lead, ⟨lnN down lead far, 0, none, [], rfl, Nat.zero_le _, by rw [e0]; rfl, Do.same sD, upd_same, Nat.le_refl _, Tin.nil⟩, ?_⟩
    rintro m σ H2 ⟨i, y11, xs, rfl, hi, rfl, sm, h2, lx, tn⟩
    have pb2 : PB H2 a t high wide rs top left down across := ⟨sm _ _ pb.p (ne_of_none pb.p hD), pb.pr, sm _ _ pb.b (ne_of_none pb.b hD)⟩
    have nb := lnN_big (lead := lead) (down := down) (show 1 ≤ far by omega)
    have ib : (0 : Int) ≤ (i : Int) * far := Int.mul_nonneg (by omega) (by omega)
    have ib2 : (i : Int) * far ≤ 200 * 60 := by
      have : (i * far : Nat) ≤ 200 * 60 := Nat.mul_le_mul (by omega) (by omega)
      have h3 : ((i * far : Nat) : Int) ≤ ((200 * 60 : Nat) : Int) := Int.ofNat_le.mpr this
      rw [Int.natCast_mul] at h3
      exact h3
    have hB : lnB top lead far i = (top : Int) - lead + i * far := rfl
    refine ⟨.int (lnB top lead far i), rfl, .int top, rfl, .int down, rfl, top, down, rfl, rfl, _, _, rfl, rfl, _, rfl, ite2 (fun e => ?_) (fun e => ?_)⟩
    · have hlt := of_decide_eq_true e
      have hk : i < lnN down lead far := by
        rcases Nat.lt_or_ge i (lnN down lead far) with z | z
        · exact z
        · exfalso
          have ei : i = lnN down lead far := by omega
          have h := lnN_le (lead := lead) (down := down) (show 1 ≤ far by omega)
          rw [← ei] at h
          have h2 : (down : Int) + lead ≤ (i : Int) * far := by
            have : ((down + lead : Nat) : Int) ≤ ((i * far : Nat) : Int) := Int.ofNat_le.mpr h
            rw [Int.natCast_mul, Int.natCast_add] at this
            exact this
          omega
      obtain ⟨fi, n, L⟩ := ln_k O hk
      have ef := L.f
      have ee := L.e
      have := L.n1
      have := L.n9
      have := L.t0
      have := L.t1
      unfold lnF at ef
      unfold lnE at ee
      rw [hB] at ef ee hlt
      generalize hb0 : (top : Int) - lead + i * far = b0 at ef ee hlt hB
      have m0 : insM top down b0 fi 0 = 0 := by
        unfold insM
        split at ef <;> split <;> omega
      have mT : insM top down b0 fi tall = n := by
        unfold insM
        split at ee <;> (rename_i hq; first | rw [if_pos hq] | rw [if_neg hq]) <;> omega
      have ex : lnX top left down across tall far lead i = [(fi : Int), (left : Int), (n : Int), (across : Int)] := by
        unfold lnX
        rw [L.f, L.e, show (fi : Int) + n - fi = n by omega]
      have ep : lnP rs top left down across tall far lead i = hasD (cutR rs fi left n across) := by
        unfold lnP
        rw [L.f, L.e, show ((fi : Int) + n - fi).toNat = n by omega, Int.toNat_natCast]
      rw [hB]
      refine ⟨fun σ' H' => ∃ m', m' < lnN down lead far - i ∧ DueW K H a t D rs top left down across tall far lead m' σ' H', fun _ _ h => h, ?_⟩
      refine ⟨fun σ' H' => ∃ I : Addr, σ' = [some (.ref a), some (.ref t), some (.int tall), some (.int far), some (.int lead), some (.int top), some (.int left), some (.int down), some (.int across), some (.ref D), some (.int b0), some (.ref I), none] ∧ Same H2 H' ∧ H' I = some (.lst ((insI fi n).map V.int)), ?_, ?_⟩
      · refine ⟨.int b0, rfl, .int b0, rfl, .int tall, rfl, b0, tall, rfl, rfl, b0, _, rfl, ⟨by omega, by omega, by omega, by omega⟩, ?_⟩
        rw [show (b0 + (tall : Int) - b0).toNat = tall by omega]
        refine fun I hI => lc_range (lo := b0) (n := tall) (fun j H3 => Same H2 H3 ∧ H3 I = some (.lst ((insI fi (insM top down b0 fi j)).map V.int))) ⟨same_upd hI, by rw [m0, upd_same]; rfl⟩ ?_ ?_
        · rintro j H3 hj ⟨s3, h3⟩
          refine ⟨rfl, .int top, rfl, .int (b0 + j), rfl, _, _, rfl, rfl, _, rfl, ite2 (fun e1 => ?_) (fun e1 => ?_)⟩
          · have g1 := of_decide_eq_true e1
            refine ⟨.int top, rfl, .int down, rfl, top, down, rfl, rfl, _, _, rfl, rfl, _, rfl, ite2 (fun e2 => ?_) (fun e2 => ?_)⟩
            · have g2 := of_decide_eq_true e2
              have mj : insM top down b0 fi (j + 1) = insM top down b0 fi j + 1 ∧ ((fi + insM top down b0 fi j : Nat) : Int) = b0 + j := by
                unfold insM
                split at ef <;> (repeat' split) <;> refine ⟨?_, ?_⟩ <;> omega
              refine ⟨.int (b0 + j), rfl, _, h3, ?_, same_over s3 hI, ?_⟩
              · rw [List.length_map, insI_len]
                unfold insM
                split <;> exact small1000 (by omega)
              · rw [upd_same, mj.1, insI_succ, List.map_append, mj.2]
                rfl
            · have g2 : ¬ (b0 + (j : Int) < (top : Int) + down) := fun z => e2 (decide_eq_true z)
              have mj : insM top down b0 fi (j + 1) = insM top down b0 fi j := by
                unfold insM
                split at ef <;> (repeat' split) <;> omega
              rw [mj]
              exact ⟨s3, h3⟩
          · have g1 : ¬ ((top : Int) ≤ b0 + j) := fun z => e1 (decide_eq_true z)
            have mj : insM top down b0 fi (j + 1) = insM top down b0 fi j := by
              unfold insM
              split at ef <;> (repeat' split) <;> omega
            refine ⟨_, rfl, ?_⟩
            rw [mj]
            exact ⟨s3, h3⟩
        · rintro H3 ⟨s3, h3⟩
          rw [mT] at h3
          exact ⟨I, rfl, s3, h3⟩
      rintro _ H3 ⟨I, rfl, s3, hI⟩
      have pb3 := pb2.same s3
      have h3 := s3 _ _ h2
      have tn3 := tn.same s3
      have es := lnL_succ rs top left down across tall far lead i
      have nei : insI fi n ≠ [] := by
        intro z
        have := insI_len fi n
        rw [z] at this
        simp at this
        omega
      have li : ((insI fi n).map V.int).length = n := by rw [List.length_map, insI_len]
      refine ⟨fun σ' H' => ∃ ys : List V, σ' = [some (.ref a), some (.ref t), some (.int tall), some (.int far), some (.int lead), some (.int top), some (.int left), some (.int down), some (.int across), some (.ref D), some (.int b0), some (.ref I), none] ∧ Do D H H' ∧ H' D = some (.lst ys) ∧ ys.length ≤ i + 1 ∧ Tin K H' ys (lnL rs top left down across tall far lead (i + 1)), ?_, ?_⟩
      · have hs : Do D H H3 := sm.trans (Do.same s3)
        refine ⟨.ref I, rfl, by show 0 ≤ sizeLine; decide, fun z0 hz0 => ?_⟩
        have sz := same_upd (o := .lst []) hz0
        refine ⟨.list ((insI fi n).map .int), .list [], .lst (SqL.of (sz _ _ hI)) (dp_ints _), .lst (SqL.of upd_same) .nil, shaped_ints _, by decide +kernel, _, rfl, iteY (ne_ints nei) ?_⟩
        generalize upd H3 z0 (.lst []) = H3' at sz
        refine ⟨.ref I, rfl, I, rfl, ⟨_, SqL.of (sz _ _ hI)⟩, fun B hB' => lc_list (K := K) (a := I) (xs := (insI fi n).map V.int) (fun j H5 => Same H3' H5 ∧ H5 B = some (.lst ((((List.range n).take j).map fun j => decide (35 ∈ ((rs.getD (fi + j) []).drop left).take across)).map V.bl))) ⟨same_upd hB', upd_same⟩ (fun j H5 _ z => SqL.of (z.1 _ _ (sz _ _ hI))) ?_ ?_⟩
        · rintro j x H5 hj ⟨s5, h5⟩
          have hjn : j < n := by
            rw [← li]
            exact (List.getElem?_eq_some_iff.mp hj).1
          rw [List.getElem?_map, insI_at hjn] at hj
          cases hj
          have hr1 : fi + j < rs.length := by omega
          have er : rs[fi + j]? = some rs[fi + j] := List.getElem?_eq_getElem hr1
          have ed : rs.getD (fi + j) [] = rs[fi + j] := by rw [List.getD_eq_getElem?_getD, er]; rfl
          have lr := (pb.pr.row _ (List.getElem_mem hr1)).len
          generalize rs[fi + j] = row at er ed lr
          have pa := s5 _ _ (sz _ _ pb3.p)
          refine ⟨rfl, .ref a, rfl, .int ((fi + j : Nat) : Int), rfl, a, _, ((fi + j : Nat) : Int), rv row, rfl, rfl, SqT.of pa, atI_nat (by rw [List.getElem?_map, er]; rfl), .int left, rfl, left, rfl, .int left, rfl, .int across, rfl, left, across, rfl, rfl, _, rfl, S row, rfl, ?_, ?_⟩
          · rw [SX.S_len]
            exact Nat.le_of_lt (small1000 (by omega))
          · rw [cutS_mid _ _ _ (by omega)]
            refine ⟨35, _, rfl, rfl, _, h5, ?_, same_over s5 hB', ?_⟩
            · rw [List.length_map, List.length_map, List.length_take, List.length_range]
              exact small1000 (by omega)
            · have en : (List.range n)[j]? = some j := List.getElem?_range hjn
              rw [upd_same, take_snoc en, List.map_append, List.map_append, List.map_cons, ed]
              rfl
        · rintro H5 ⟨s5, h5⟩
          rw [li] at h5
          have et : (List.range n).take n = List.range n := List.take_of_length_le (by rw [List.length_range]; exact Nat.le_refl _)
          rw [et] at h5
          refine ⟨B, _, rfl, SqL.of h5, _, rfl, ?_⟩
          rw [any_part rs fi left n across (by omega), ← ep]
          have s35 := sz.trans s5
          cases ec : lnP rs top left down across tall far lead i with
          | true =>
            rw [ec, if_pos rfl] at es
            refine iteT ⟨.ref D, rfl, .inl ⟨rfl, _, SqL.of (s35 _ _ h3)⟩, .ref I, rfl, I, _, 0, .int fi, rfl, rfl, SqL.of (s35 _ _ hI), ?_, .int left, rfl, .ref I, rfl, I, _, rfl, .inl (SqL.of (s35 _ _ hI)), .int across, rfl, by show 4 ≤ sizeLine; decide, fun z hz => ?_⟩
            · have h00 := insI_at (fi := fi) (show 0 < n by omega)
              exact atI_nat (j := 0) (by rw [List.getElem?_map, h00]; rfl)
            · rw [li]
              have szz := same_upd (o := .tup [V.int (fi : Int), V.int (left : Int), V.int (n : Int), V.int (across : Int)]) hz
              have hD6 := szz _ _ (s35 _ _ h3)
              have nzD : z ≠ D := (ne_of_none (s35 _ _ h3) hz).symm
              refine ⟨D, xs, .ref z, rfl, rfl, hD6, small1000 (by omega), xs ++ [.ref z], rfl, ?_, upd_same, by rw [List.length_append]; exact Nat.add_le_add_right lx 1, ?_⟩
              · exact (hs.trans (Do.same (s35.trans szz))).upd hD
              · rw [es]
                refine Tin.add ((tn3.same (s35.trans szz)).updl hD6) ?_
                rw [upd_ne nzD, upd_same, ex]
                rfl
          | false =>
            rw [ec, if_neg (by decide), List.append_nil] at es
            refine iteF ⟨xs, rfl, hs.trans (Do.same s35), s35 _ _ h3, Nat.le_succ_of_le lx, ?_⟩
            rw [es]
            exact tn3.same s35
      rintro _ H4 ⟨ys, rfl, s4, h4, ly, ty⟩
      refine ⟨.int b0, rfl, .int far, rfl, b0, far, rfl, rfl, lnN down lead far - (i + 1), by omega, i + 1, some (.ref I), ys, rfl, hk, ?_, s4, h4, ly, ty⟩
      have eb : lnB top lead far (i + 1) = b0 + far := by
        rw [← hB]
        unfold lnB
        rw [Int.natCast_add, Int.add_mul]
        omega
      rw [eb]
      rfl
    · have hge : ¬ (lnB top lead far i < (top : Int) + down) := fun z => e (decide_eq_true z)
      have hk : i = lnN down lead far := by
        rcases Nat.lt_or_ge i (lnN down lead far) with z | z
        · exfalso
          have h := lnN_lt (lead := lead) (down := down) (show 1 ≤ far by omega) z
          have h2 : (i : Int) * far < (down : Int) + lead := by
            have : ((i * far : Nat) : Int) < ((down + lead : Nat) : Int) := Int.ofNat_lt.mpr h
            rw [Int.natCast_mul, Int.natCast_add] at this
            exact this
          omega
        · omega
      rw [hk] at tn
      exact ⟨.ref D, rfl, q D xs H2 (fun b u e => sm b u e (ne_of_none e hD)) hD h2 tn⟩
end
end Dt
namespace L2X
open PySem PySem.Spec PyProof.Rows L2
theorem for_enumG {K : PySem.W.Frag} {A : Src} {xs : List V} {g : TG} {tb : TS} {D : Ends} {σ : L2.St} {H : Hp} (Pv : Nat → L2.St → Hp → Prop) (h0 : Pv 0 σ H) (hl : ∀ i σ H, i ≤ xs.length → Pv i σ H → A.has K H xs)
    (hs : ∀ i x σ H T, xs[i]? = some x → Pv i σ H → H T = none → g (.ref T) σ (upd H T (.tup [.int (i : Nat), x])) fun σ2 H2 => tb { D with nx := Pv (i + 1), ct := Pv (i + 1), bk := D.nx } σ2 H2) (hd : ∀ σ H, Pv xs.length σ H → D.nx σ H) :
    ∃ W : Nat → Nat → L2.St → Hp → Prop, (∃ m, W 0 m σ H) ∧ ∀ i m σ H, W i m σ H →
      ((IteG K A).stop i H ∧ D.nx σ H) ∨ ((IteG K A).go i H ∧ ∃ N : L2.St → Hp → Prop, (∀ σ' H', N σ' H' → ∃ m', m' < m ∧ W (i + 1) m' σ' H') ∧ ∀ x H', (IteG K A).yld i H x H' → g x σ H' fun σ2 H2 => tb { D with nx := N, ct := N, bk := D.nx } σ2 H2) := by
  refine ⟨fun i m σ H => m = xs.length - i ∧ i ≤ xs.length ∧ Pv i σ H, ⟨xs.length, by simp, Nat.zero_le _, h0⟩, ?_⟩
  rintro i m σ H ⟨rfl, hi, p⟩
  have qx := hl i σ H hi p
  by_cases hlt : i < xs.length
  · have ex : xs[i]? = some xs[i] := List.getElem?_eq_getElem hlt
    refine .inr ⟨⟨xs, _, qx, ex⟩, Pv (i + 1), fun σ' H' p' => ⟨xs.length - (i + 1), by omega, rfl, hlt, p'⟩, fun x H' y => ?_⟩
    obtain ⟨T, u, rfl, nT, rfl, z1⟩ := y
    exact hs i u σ H T (z1 xs qx) p nT
  · have e : i = xs.length := by omega
    subst e
    exact .inl ⟨⟨xs, qx, rfl⟩, hd σ H p⟩
end L2X
namespace Dt
open PySem PySem.Spec PyProof.Rows L2 L2X
open SX (S)
open StX
theorem cutV_to (xs : List V) (n : Nat) : cutV xs none (some (n : Int)) = xs.take n := by
  unfold cutV
  rw [HT.sIx_nat]
  show (xs.drop 0).take (min n xs.length - 0) = _
  rw [List.drop_zero, Nat.sub_zero]
  by_cases h : n ≤ xs.length
  · rw [Nat.min_eq_left h]
  · rw [Nat.min_eq_right (by omega), List.take_length, List.take_of_length_le (by omega)]
theorem or_by {K : PySem.W.Frag} {ta tb : TE} {σ : L2.St} {H : Hp} {Q : VK} {a : Addr} {ns : List Int} (hta : ∀ R : VK, R (.ref a) H → ta σ H R) (hS : SqL K H a (ns.map V.int)) (hl : ns.length ≤ 63)
    (hb : ∀ R : VK, (∀ l, H l = none → R (.ref l) (upd H l (.lst [V.int 5]))) → tb σ H R) (q : ∀ (H1 : Hp) (l0 : Addr) (ms : List Int), Same H H1 → SqL K H1 l0 (ms.map V.int) → ms.length ≤ 63 → Q (.ref l0) H1) : tOrT K ta tb σ H Q := by
  refine hta _ ⟨!(ns.map V.int).isEmpty, .inl ⟨_, hS, rfl⟩, ?_⟩
  cases ns with
  | nil => exact iteF (hb _ fun l hl => q _ l [5] (same_upd hl) (SqL.of upd_same) (by decide))
  | cons z zs => exact iteT (q H a (z :: zs) (Same.refl H) hS hl)
theorem pick5 {a b c e f j : Nat} {x : V} (h : [V.int (a : Int), V.int (b : Int), V.int (c : Int), V.int (e : Int), V.int (f : Int)][j]? = some x) : ∃ g : Nat, x = .int (g : Int) ∧ (g = a ∨ g = b ∨ g = c ∨ g = e ∨ g = f) := by
  rcases j with _ | _ | _ | _ | _ | j
  · cases h
    exact ⟨a, rfl, .inl rfl⟩
  · cases h
    exact ⟨b, rfl, .inr (.inl rfl)⟩
  · cases h
    exact ⟨c, rfl, .inr (.inr (.inl rfl))⟩
  · cases h
    exact ⟨e, rfl, .inr (.inr (.inr (.inl rfl)))⟩
  · cases h
    exact ⟨f, rfl, .inr (.inr (.inr (.inr rfl)))⟩
  · cases h
theorem eq_tins (bs : List (List Int)) : (!PyData.eqv (.list (bs.map iD)) (.list (bs.map iD))) = false := by
  rw [PyData.eqv, eqv_tins]
  rfl
abbrev sLaw : Stmt := topS 35
abbrev nLaw : List Str := ["script", "k", "cell", "draw", "tall", "far", "lead", "picture", "turn", "top", "left", "down", "across", "box", "told"]
theorem scLaw : FnScope nLaw ["script"] (defScope sLaw) := ⟨rfl, rfl, rfl, by decide +kernel, rfl, by decide +kernel, by decide +kernel⟩
def spLaw (K : PySem.W.Frag) : Sp := fun vs H Q _ => ∃ (a : Addr) (ns : List Int), vs = [.ref a] ∧ SqL K H a (ns.map V.int) ∧ ns.length ≤ 63 ∧ ∀ H', Q (.bl true) H'
section
variable {P : Program} {w : World} {K : PySem.W.Frag} {mg : Str → Option Value} {base : Heap}
theorem ok_law {f fO : Addr} {fd fdO : FuncData} {k : Nat} (F : Fun K "law" "law" sLaw f fd) (T : Tx mg) (en : mg "enumerate" = none) (is : mg "isinstance" = none)
    (GB : Pm P w K mg base CX0 (k + 1) "_law_begun" ["cell", "k"] spBg) (GN : Pm P w K mg base CX0 (k + 1) "_law_next" ["draw", "below"] spNx) (GK : Pm P w K mg base CX0 (k + 1) "_law_pick" ["draw", "some"] (spPk K)) (GP : Pm P w K mg base CX0 (k + 1) "_law_page" ["draw"] spPg)
    (GD : Pm P w K mg base CX0 (k + 1) "_law_due" ["picture", "box", "tall", "far", "lead"] (spLO K)) (FO : FnLO K fO fdO) (GO : FnOk P w K mg base CX0 (k + 1) fO fdO ["picture", "box", "high", "pitch", "above"] (spLO K)) (mO : mg "lines_of" = some (.ref fO)) : FnOk P w K mg base CX0 (k + 2) f fd ["script"] (spLaw K) := by
  obtain ⟨fB, fdB, GB, mB, kB, bB⟩ := GB.ex
  obtain ⟨fN, fdN, GN, mN, kN, bN⟩ := GN.ex
  obtain ⟨fK, fdK, GK, mK, kK, bK⟩ := GK.ex
  obtain ⟨fP, fdP, GP, mP, kP, bP⟩ := GP.ex
  obtain ⟨fD, fdD, GD, mD, kD, bD⟩ := GD.ex
  obtain ⟨mv3, b3⟩ := lo_binds3 FO
  obtain ⟨mv2, b2⟩ := lo_binds2 FO
  have kO := FO.kp
  refine F.ok scLaw (fun vs H Q E h => ?_) (fun cdv A outer s H vs Q E hr h => ?_)
  · obtain ⟨a, ns, rfl, _⟩ := h
    rfl
  · obtain ⟨a, ns, rfl, hS, hlen, q⟩ := h
    have nd := scLaw.nd
    refine ⟨_, pss_cons (ps_for PassesOwn.never rfl (pi_enumG (by rfl) en (pa_cons (pe_slice sl_list (pe_orT (pv 0) (pe_one (pe_lst (pa_cons pe_int pa_nil)))) po_none (po_some pe_int)) pa_nil)) (pg_tup rfl (pgs_cons (pg_name (i := 1) nd rfl (Or.inl rfl)) (pgs_cons (pg_name (i := 2) nd rfl (Or.inl rfl)) pgs_nil)))
        (C8.pss_cut (ps_set (i := 3) nd rfl (.inl rfl) (pe_call GB hr (by rfl) mB kB bB .nil pass0 (pa_cons (pv 2) (pa_cons (pv 1) pa_nil))))
        (C8.pss_cut (ps_set (i := 4) nd rfl (.inl rfl) (pe_op op_add pe_int (pe_call GN hr (by rfl) mN kN bN .nil pass0 (pa_cons (pv 3) (pa_cons pe_int pa_nil)))))
        (C8.pss_cut (ps_par (i := 5) (j := 6) (by rfl) nd rfl rfl (by decide) rfl rfl (pa_cons (pe_op op_add (pv 4) (pe_call GK hr (by rfl) mK kK bK .nil pass0 (pa_cons (pv 3) (pa_cons (pe_lst (pa_cons pe_int (pa_cons pe_int (pa_cons pe_int (pa_cons pe_int (pa_cons (pe_op op_sub pe_int (pv 4)) pa_nil)))))) pa_nil))))
            (pa_cons (pe_call GK hr (by rfl) mK kK bK .nil pass0 (pa_cons (pv 3) (pa_cons (pe_lst (pa_cons pe_int (pa_cons pe_int (pa_cons (pe_call GN hr (by rfl) mN kN bN .nil pass0 (pa_cons (pv 3) (pa_cons (pv 4) pa_nil))) pa_nil)))) pa_nil))) pa_nil)) (by rfl))
        (C8.pss_cut (ps_set (i := 7) nd rfl (.inl rfl) (pe_call GP hr (by rfl) mP kP bP .nil pass0 (pa_cons (pv 3) pa_nil)))
        (pss_one (ps_for PassesOwn.never rfl (pi_range1 rfl T.range (pa_cons pe_int pa_nil)) (pg_name (i := 8) nd rfl (.inl rfl))
          (C8.pss_cut (ps_par (i := 9) (j := 10) (by rfl) nd rfl rfl (by decide) rfl rfl (pa_cons (pe_call GN hr (by rfl) mN kN bN .nil pass0 (pa_cons (pv 3) (pa_cons (pe_callB call_len_seq (by rfl) T.len PySem.boot_len (pa_cons (pv 7) pa_nil)) pa_nil))) (pa_cons (pe_call GN hr (by rfl) mN kN bN .nil pass0 (pa_cons (pv 3) (pa_cons (pe_callB call_len_str (by rfl) T.len PySem.boot_len (pa_cons (pe_ix (r := rIxT K) ix_tup (pv 7) pe_int (fun _ _ => rfl)) pa_nil)) pa_nil))) pa_nil)) (by rfl))
          (C8.pss_cut (ps_par (i := 11) (j := 12) (by rfl) nd rfl rfl (by decide) rfl rfl (pa_cons (pe_op op_add pe_int (pe_call GN hr (by rfl) mN kN bN .nil pass0 (pa_cons (pv 3) (pa_cons (pe_op op_sub (pe_callB call_len_seq (by rfl) T.len PySem.boot_len (pa_cons (pv 7) pa_nil)) (pv 9)) pa_nil)))) (pa_cons (pe_op op_add pe_int (pe_call GN hr (by rfl) mN kN bN .nil pass0 (pa_cons (pv 3) (pa_cons (pe_op op_sub (pe_callB call_len_str (by rfl) T.len PySem.boot_len (pa_cons (pe_ix (r := rIxT K) ix_tup (pv 7) pe_int (fun _ _ => rfl)) pa_nil)) (pv 10)) pa_nil)))) pa_nil)) (by rfl))
          (C8.pss_cut (ps_set (i := 13) nd rfl (.inl rfl) (pe_ifExp (pt_cmpR op_gt (pv 8) pe_int (nomark _)) (pe_tup (pa_cons (pv 9) (pa_cons (pv 10) (pa_cons (pv 11) (pa_cons (pv 12) pa_nil))))) (pe_tup (pa_cons pe_int (pa_cons pe_int (pa_cons (pe_callB call_len_seq (by rfl) T.len PySem.boot_len (pa_cons (pv 7) pa_nil)) (pa_cons (pe_callB call_len_str (by rfl) T.len PySem.boot_len (pa_cons (pe_ix (r := rIxT K) ix_tup (pv 7) pe_int (fun _ _ => rfl)) pa_nil)) pa_nil)))))))
          (C8.pss_cut (ps_set (i := 14) nd rfl (.inl rfl) (pe_callN GO hr (by rfl) mO kO b3 pass0 (pa_cons (pv 7) (pa_cons (pv 13) pa_nil)) (pk_cons (pv 4) (pk_cons (pv 5) (pk_cons (pv 6) pk_nil)))))
          (C8.pss_cut (ps_if (PW.pt (pw_or (pt_not (pt_val (pe_callB call_isi (by rfl) is (by decide +kernel) (pa_cons (pv 14) (pa_cons (pe_bltn (v := .ty "list") (u := .type "list") (by rfl) T.list (by decide +kernel) rfl) pa_nil))))) (pw_or1 (pt_cmpR (op_neD hr.units) (pv 14) (pe_call GD hr (by rfl) mD kD bD .nil pass0 (pa_cons (pv 7) (pa_cons (pv 13) (pa_cons (pv 4) (pa_cons (pv 5) (pa_cons (pv 6) pa_nil)))))) (nomark _))))) (pss_one (ps_ret pe_bl)) pss_nil)
          (C8.pss_cut (ps_expr (pe_bm0 PySem.F.plainAttrs_list PySem.F.slot_list_reverse PySem.F.type_list_reverse mt_reverse (pv 14)))
          (pss_one (ps_if (pt_cmpR (op_neD hr.units) (pe_callN GO hr (by rfl) mO kO b2 pass0 (pa_cons (pv 7) (pa_cons (pv 13) pa_nil)) (pk_cons (pv 5) (pk_cons (pv 4) pk_nil))) (pe_call GD hr (by rfl) mD kD bD .nil pass0 (pa_cons (pv 7) (pa_cons (pv 13) (pa_cons (pv 4) (pa_cons (pv 5) (pa_cons pe_int pa_nil)))))) (nomark _)) (pss_one (ps_ret pe_bl)) pss_nil)))))))))))))))
      (pss_one (ps_ret pe_bl)), ?_⟩
    refine or_by (a := a) (ns := ns) (fun R r => ⟨.ref a, rfl, r⟩) hS hlen (fun R r => ⟨by show 1 ≤ sizeLine; decide, fun l hl => r l hl⟩) fun H1 l0 ms s1 hq hm => ?_
    refine ⟨5, rfl, l0, _, rfl, hq, fun lc hlc => ?_⟩
    have scut : cutV (ms.map V.int) none (some 5) = (ms.take 5).map V.int := by
      rw [List.map_take]
      exact cutV_to _ 5
    have hlc1 : (upd H1 lc (.lst (cutV (ms.map V.int) none (some 5)))) lc = some (.lst ((ms.take 5).map V.int)) := by rw [upd_same, scut]
    generalize upd H1 lc (.lst (cutV (ms.map V.int) none (some 5))) = HB at hlc1 ⊢
    refine ⟨.lst lc, (ms.take 5).map V.int, rfl, SqL.of hlc1, for_enumG (K := K) (A := .lst lc) (xs := (ms.take 5).map V.int) (fun i σ H2 => ∃ y1 y2 y3 y4 y5 y6 y7 y8 y9 y10 y11 y12 y13 y14, σ = [some (.ref a), y1, y2, y3, y4, y5, y6, y7, y8, y9, y10, y11, y12, y13, y14] ∧ Same HB H2) ⟨none, none, none, none, none, none, none, none, none, none, none, none, none, none, rfl, Same.refl _⟩ (fun i σ H2 _ z => by
      obtain ⟨_, _, _, _, _, _, _, _, _, _, _, _, _, _, _, sm⟩ := z
      exact SqL.of (sm _ _ hlc1)) ?_ ?_⟩
    · rintro kk x σ H2 T' hx ⟨y1, y2, y3, y4, y5, y6, y7, y8, y9, y10, y11, y12, y13, y14, rfl, sm⟩ hT
      have hkk : kk < 5 := by
        have := (List.getElem?_eq_some_iff.mp hx).1
        rw [List.length_map, List.length_take] at this
        omega
      obtain ⟨cell, _, rfl⟩ := map_at2 hx
      have sB := sm.trans (same_upd (o := .tup [V.int (kk : Nat), V.int cell]) hT)
      refine ⟨T', _, rfl, SqT.of upd_same, rfl, _, _, rfl, _, _, rfl, rfl, ?_⟩
      generalize upd H2 T' (.tup [V.int (kk : Nat), V.int cell]) = H3 at sB
      -- the drawing list
      refine ⟨fun σ' H' => ∃ d, σ' = [some (.ref a), some (.int (kk : Nat)), some (.int cell), some (.ref d), y4, y5, y6, y7, y8, y9, y10, y11, y12, y13, y14] ∧ HB d = none ∧ Du H' d 0 ∧ Same HB H', ?_, ?_⟩
      · exact ⟨.int cell, rfl, .int kk, rfl, cell, kk, rfl, by omega, by omega, fun d H4 nd4 s4 D4 => ⟨d, rfl, sB.free nd4, D4, sB.trans s4⟩⟩
      rintro _ H4 ⟨d, rfl, ndB, D4, s4⟩
      have doB : ∀ {H5 : Hp}, Do d H4 H5 → Same HB H5 := fun dn b o e => dn b o (s4 b o e) (ne_of_none e ndB)
      -- how tall
      refine ⟨fun σ' H' => ∃ tall : Nat, σ' = [some (.ref a), some (.int (kk : Nat)), some (.int cell), some (.ref d), some (.int tall), y5, y6, y7, y8, y9, y10, y11, y12, y13, y14] ∧ 1 ≤ tall ∧ tall ≤ 9 ∧ Du H' d 1 ∧ Do d H4 H', ?_, ?_⟩
      · refine ⟨.ref d, rfl, d, 9, 0, rfl, D4, (by show 0 ≤ 1000000000000; decide), by decide, by decide, fun m H5 m0 m1 D5 dn5 => ⟨1, m, rfl, rfl, ?_⟩⟩
        obtain ⟨m, rfl⟩ := Int.eq_ofNat_of_zero_le m0
        have e1 : (1 + (m : Int)) = ((1 + m : Nat) : Int) := by omega
        exact ⟨1 + m, by rw [← e1]; rfl, by omega, by omega, D5, dn5⟩
      rintro _ H5 ⟨tall, rfl, t0, t9, D5, dn5⟩
      -- how far, how much above
      refine ⟨fun σ' H' => ∃ far lead : Nat, σ' = [some (.ref a), some (.int (kk : Nat)), some (.int cell), some (.ref d), some (.int tall), some (.int far), some (.int lead), y7, y8, y9, y10, y11, y12, y13, y14] ∧ tall ≤ far ∧ far ≤ 60 ∧ lead < tall ∧ Du H' d 4 ∧ Do d H4 H', ?_, ?_⟩
      · refine ⟨.int tall, rfl, .ref d, rfl, .int tall, rfl, 60, tall, rfl, rfl, by show 5 ≤ sizeLine; decide, fun l1 hl1 => ?_⟩
        have e60 : (60 : Int) - tall = ((60 - tall : Nat) : Int) := by omega
        refine ⟨d, .ref l1, 1, rfl, D5.same (same_upd hl1), (by show 1 ≤ 1000000000000; decide), .inl ⟨l1, _, rfl, D5.new hl1, upd_same, (Nat.succ_pos 4), (by show 5 ≤ 1000; decide), fun j x H6 hx D6 dn6 => ?_⟩⟩
        have hx' : [V.int 0, V.int 1, V.int 2, V.int 7, V.int ((60 : Int) - tall)][j]? = some x := hx
        rw [e60] at hx'
        obtain ⟨g1, rfl, hg1⟩ := pick5 (a := 0) (b := 1) (c := 2) (e := 7) (f := 60 - tall) hx'
        have dA := (Do.same (d := d) (same_upd hl1)).trans dn6
        refine ⟨tall, g1, rfl, rfl, .ref d, rfl, .ref d, rfl, .int tall, rfl, d, tall, 2, rfl, D6, (by show 2 ≤ 1000000000000; decide), by omega, by omega, fun m H7 m0 m1 D7 dn7 => ⟨by show 3 ≤ sizeLine; decide, fun l2 hl2 => ?_⟩⟩
        obtain ⟨m, rfl⟩ := Int.eq_ofNat_of_zero_le m0
        refine ⟨d, .ref l2, 3, rfl, D7.same (same_upd hl2), (by show 3 ≤ 1000000000000; decide), .inl ⟨l2, _, rfl, D7.new hl2, upd_same, (Nat.succ_pos 2), (by show 3 ≤ 1000; decide), fun j2 x2 H8 hx2 D8 dn8 => ?_⟩⟩
        obtain ⟨g2, rfl, hg2⟩ := pick3 (a := 0) (b := 0) (c := m) hx2
        have dB := (Do.same (d := d) (same_upd (o := .lst [V.int 0, V.int 0, V.int (m : Int)]) hl2)).trans dn8
        have e1 : (tall : Int) + (g1 : Int) = ((tall + g1 : Nat) : Int) := by omega
        refine ⟨_, _, rfl, tall + g1, g2, ?_, by omega, by omega, by omega, D8, ((dn5.trans dA).trans dn7).trans dB⟩
        rw [← e1]
        rfl
      rintro _ H6 ⟨far, lead, rfl, f1, f60, le, D6, dn6⟩
      -- the page
      refine ⟨fun σ' H' => ∃ (pa : Addr) (high wide : Nat) (rs : List (List Nat)), σ' = [some (.ref a), some (.int (kk : Nat)), some (.int cell), some (.ref d), some (.int tall), some (.int far), some (.int lead), some (.ref pa), y8, y9, y10, y11, y12, y13, y14] ∧ PicR high wide rs ∧ H' pa = some (.tup (rs.map rv)) ∧ Du H' d 20004 ∧ Do d H4 H', ?_, ?_⟩
      · exact ⟨.ref d, rfl, d, 4, rfl, D6, (by show _ ≤ 1000000000000; decide), fun pa high wide rs H7 pr h1 w1 np hpa D7 dn7 => ⟨pa, high, wide, rs, rfl, pr, hpa, D7, dn6.trans dn7⟩⟩
      rintro _ H7 ⟨pa, high, wide, rs, rfl, pr, hpa, D7, dn7⟩
      refine ⟨4, rfl, by decide, by decide, for_range (lo := 0) (n := 4) (fun i σ H8 => ∃ y8 y9 y10 y11 y12 y13 y14, σ = [some (.ref a), some (.int (kk : Nat)), some (.int cell), some (.ref d), some (.int tall), some (.int far), some (.int lead), some (.ref pa), y8, y9, y10, y11, y12, y13, y14] ∧ H8 pa = some (.tup (rs.map rv)) ∧ Du H8 d (20004 + 10 * i) ∧ Do d H4 H8) ⟨y8, y9, y10, y11, y12, y13, y14, rfl, hpa, D7, dn7⟩ ?_ ?_⟩
      · rintro i σ H8 hi ⟨y8, y9, y10, y11, y12, y13, y14, rfl, hp8, D8, dn8⟩
        have hh0 := pr.h0
        have hh1 := pr.h1
        have hw0 := pr.w0
        have hw1 := pr.w1
        have hlr : (rs.map rv).length = high := by rw [List.length_map, pr.len]
        have h0' : 0 < rs.length := by rw [pr.len]; omega
        have er0 : rs[0]? = some rs[0] := List.getElem?_eq_getElem h0'
        have lr0 := (pr.row _ (List.getElem_mem h0')).len
        generalize rs[0] = r0 at er0 lr0
        have ix0 : atI (rs.map rv) 0 = some (rv r0) := atI_nat (j := 0) (by rw [List.getElem?_map, er0]; rfl)
        have lS : (S r0).length = wide := by rw [SX.S_len, lr0]
        have lz : (S r0).length ≤ sizeLine := by rw [lS]; exact Nat.le_of_lt (small1000 (by omega))
        have gp : ∀ {H9 : Hp}, Do d H8 H9 → H9 pa = some (.tup (rs.map rv)) := fun dn => dn _ _ hp8 (by
          obtain ⟨_, _, _, hd, _⟩ := D8
          exact ne_of hp8 hd (by intro z; cases z))
        -- top, left
        refine ⟨fun σ' H' => ∃ top left : Nat, σ' = [some (.ref a), some (.int (kk : Nat)), some (.int cell), some (.ref d), some (.int tall), some (.int far), some (.int lead), some (.ref pa), some (.int (0 + (i : Int))), some (.int top), some (.int left), y11, y12, y13, y14] ∧ top < high ∧ left < wide ∧ Du H' d (20004 + 10 * i + 2) ∧ Do d H8 H', ?_, ?_⟩
        · refine ⟨.ref d, rfl, .ref pa, rfl, pa, _, rfl, .inr (SqT.of hp8), ?_⟩
          rw [hlr]
          refine ⟨d, high, _, rfl, D8, (by show _ ≤ 1000000000000; omega), by omega, by omega, fun m H9 m0 m1 D9 dn9 => ⟨.ref d, rfl, .ref pa, rfl, pa, _, 0, rv r0, rfl, rfl, SqT.of (gp dn9), ix0, S r0, rfl, lz, ?_⟩⟩
          rw [lS]
          refine ⟨d, wide, _, rfl, D9, (by show _ ≤ 1000000000000; omega), by omega, by omega, fun m2 H10 q0 q1 D10 dn10 => ?_⟩
          obtain ⟨m, rfl⟩ := Int.eq_ofNat_of_zero_le m0
          obtain ⟨m2, rfl⟩ := Int.eq_ofNat_of_zero_le q0
          exact ⟨_, _, rfl, m, m2, rfl, by omega, by omega, D10, dn9.trans dn10⟩
        rintro _ H9 ⟨top, left, rfl, htop, hleft, D9, dn9⟩
        -- down, across
        refine ⟨fun σ' H' => ∃ down across : Nat, σ' = [some (.ref a), some (.int (kk : Nat)), some (.int cell), some (.ref d), some (.int tall), some (.int far), some (.int lead), some (.ref pa), some (.int (0 + (i : Int))), some (.int top), some (.int left), some (.int down), some (.int across), y13, y14] ∧ 1 ≤ down ∧ top + down ≤ high ∧ 1 ≤ across ∧ left + across ≤ wide ∧ Du H' d (20004 + 10 * i + 4) ∧ Do d H8 H', ?_, ?_⟩
        · refine ⟨.ref d, rfl, .ref pa, rfl, pa, _, rfl, .inr (SqT.of (gp dn9)), .int top, rfl, ?_⟩
          rw [hlr]
          refine ⟨high, top, rfl, rfl, d, (high : Int) - top, _, rfl, D9, (by show _ ≤ 1000000000000; omega), by omega, by omega, fun m H10 m0 m1 D10 dn10 => ⟨1, m, rfl, rfl, .ref d, rfl, .ref pa, rfl, pa, _, 0, rv r0, rfl, rfl, SqT.of (gp (dn9.trans dn10)), ix0, S r0, rfl, lz, .int left, rfl, ?_⟩⟩
          rw [lS]
          refine ⟨wide, left, rfl, rfl, d, (wide : Int) - left, _, rfl, D10, (by show _ ≤ 1000000000000; omega), by omega, by omega, fun m2 H11 q0 q1 D11 dn11 => ⟨1, m2, rfl, rfl, ?_⟩⟩
          obtain ⟨m, rfl⟩ := Int.eq_ofNat_of_zero_le m0
          obtain ⟨m2, rfl⟩ := Int.eq_ofNat_of_zero_le q0
          have e1 : (1 + (m : Int)) = ((1 + m : Nat) : Int) := by omega
          have e2 : (1 + (m2 : Int)) = ((1 + m2 : Nat) : Int) := by omega
          refine ⟨_, _, rfl, 1 + m, 1 + m2, ?_, by omega, by omega, by omega, by omega, D11, dn9.trans (dn10.trans dn11)⟩
          rw [← e1, ← e2]
          rfl
        rintro _ H10 ⟨down, across, rfl, d1, td, a1, la, D10, dn10⟩
        -- the box
        refine ⟨fun σ' H' => ∃ (b : Addr) (t l dw ac : Nat), σ' = [some (.ref a), some (.int (kk : Nat)), some (.int cell), some (.ref d), some (.int tall), some (.int far), some (.int lead), some (.ref pa), some (.int (0 + (i : Int))), some (.int top), some (.int left), some (.int down), some (.int across), some (.ref b), y14] ∧ PB H' pa b high wide rs t l dw ac ∧ LnOk high wide t l dw ac tall far lead ∧ Du H' d (20004 + 10 * i + 4) ∧ Do d H8 H', ?_, ?_⟩
        · refine ⟨.int (0 + (i : Int)), rfl, _, _, rfl, rfl, _, rfl, ?_⟩
          cases decide (0 + (i : Int) > 0) with
          | true =>
            refine iteT ⟨.int top, rfl, .int left, rfl, .int down, rfl, .int across, rfl, by show 4 ≤ sizeLine; decide, fun b hb => ?_⟩
            have sb := same_upd (o := .tup [V.int (top : Int), V.int (left : Int), V.int (down : Int), V.int (across : Int)]) hb
            exact ⟨b, top, left, down, across, rfl, ⟨sb _ _ (gp dn10), pr, upd_same⟩, ⟨td, la, d1, a1, t0, t9, f1, f60, le⟩, D10.same sb, dn10.trans (Do.same sb)⟩
          | false =>
            refine iteF ⟨.ref pa, rfl, pa, _, rfl, .inr (SqT.of (gp dn10)), .ref pa, rfl, pa, _, 0, rv r0, rfl, rfl, SqT.of (gp dn10), ix0, S r0, rfl, lz, by show 4 ≤ sizeLine; decide, fun b hb => ?_⟩
            rw [hlr, lS] at *
            have sb := same_upd (o := .tup [V.int 0, V.int 0, V.int (high : Int), V.int (wide : Int)]) hb
            exact ⟨b, 0, 0, high, wide, rfl, ⟨sb _ _ (gp dn10), pr, upd_same⟩, ⟨by omega, by omega, hh0, hw0, t0, t9, f1, f60, le⟩, D10.same sb, dn10.trans (Do.same sb)⟩
        rintro _ H11 ⟨b, t, l, dw, ac, rfl, pb, O, D11, dn11⟩
        have O0 : LnOk high wide t l dw ac tall far 0 := ⟨O.t, O.l, O.d1, O.a1, O.h1, O.h9, O.f1, O.f60, by have := O.h1; omega⟩
        -- lines_of
        refine ⟨fun σ' H' => ∃ (r : Addr) (xs : List V), σ' = [some (.ref a), some (.int (kk : Nat)), some (.int cell), some (.ref d), some (.int tall), some (.int far), some (.int lead), some (.ref pa), some (.int (0 + (i : Int))), some (.int top), some (.int left), some (.int down), some (.int across), some (.ref b), some (.ref r)] ∧ Same H11 H' ∧ H11 r = none ∧ H' r = some (.lst xs) ∧ Tin K H' xs (lnL rs t l dw ac tall far lead (lnN dw lead far)), ?_, ?_⟩
        · exact ⟨.ref pa, rfl, .ref b, rfl, .int tall, rfl, .int far, rfl, .int lead, rfl, rfl, rfl, pa, b, high, wide, rs, t, l, dw, ac, tall, far, lead, rfl, pb, O, fun r xs H12 s12 nr hr' tn => ⟨r, xs, rfl, s12, nr, hr', tn⟩⟩
        rintro _ H12 ⟨r, xs, rfl, s12, nr, hr12, tn⟩
        refine ⟨fun σ' H' => σ' = [some (.ref a), some (.int (kk : Nat)), some (.int cell), some (.ref d), some (.int tall), some (.int far), some (.int lead), some (.ref pa), some (.int (0 + (i : Int))), some (.int top), some (.int left), some (.int down), some (.int across), some (.ref b), some (.ref r)] ∧ Same H12 H', ?_, ?_⟩
        · refine ⟨.ref r, rfl, .ref r, .ty "list", .type "list", .type "list", true, rfl, .ty _, .base (.lst hr12), if_pos (beq_self_eq_true _), _, rfl, iteF ?_⟩
          refine ⟨.ref r, rfl, .ref pa, rfl, .ref b, rfl, .int tall, rfl, .int far, rfl, .int lead, rfl, pa, b, high, wide, rs, t, l, dw, ac, tall, far, lead, rfl, pb.same s12, O, fun r2 xs2 H13 s13 _ hr2 tn2 => ?_⟩
          exact ⟨_, _, .lst (SqL.of (s13 _ _ hr12)) (dp_tin (tn.same s13)), .lst (SqL.of hr2) (dp_tin tn2), shaped_tins _, shaped_tins _, _, rfl, iteE (eq_tins _) ⟨rfl, s13⟩⟩
        rintro _ H13 ⟨rfl, s13⟩
        have h13 := s13 _ _ hr12
        have s113 := s12.trans s13
        refine ⟨fun σ' H' => σ' = [some (.ref a), some (.int (kk : Nat)), some (.int cell), some (.ref d), some (.int tall), some (.int far), some (.int lead), some (.ref pa), some (.int (0 + (i : Int))), some (.int top), some (.int left), some (.int down), some (.int across), some (.ref b), some (.ref r)] ∧ H' pa = some (.tup (rs.map rv)) ∧ PB H' pa b high wide rs t l dw ac ∧ Du H' d (20004 + 10 * i + 4) ∧ Do d H8 H', ?_, ?_⟩
        · refine ⟨.ref r, rfl, .inl ⟨rfl, _, SqL.of h13⟩, r, xs, rfl, rfl, h13, ?_⟩
          have kp : ∀ c u, H11 c = some u → (upd H13 r (.lst xs.reverse)) c = some u := fun c u e => by
            rw [upd_ne (ne_of_none e nr)]
            exact s113 _ _ e
          have pb' : PB (upd H13 r (.lst xs.reverse)) pa b high wide rs t l dw ac := pb.same kp
          exact ⟨rfl, pb'.p, pb', D11.same kp, dn11.trans (Do.same kp)⟩
        rintro _ H14 ⟨rfl, hp14, pb14, D14, dn14⟩
        refine ⟨.ref pa, rfl, .ref b, rfl, .int far, rfl, .int tall, rfl, rfl, rfl, pa, b, high, wide, rs, t, l, dw, ac, tall, far, 0, rfl, pb14, O0, fun r3 xs3 H15 s15 _ hr3 tn3 => ?_⟩
        refine ⟨.ref pa, rfl, .ref b, rfl, .int tall, rfl, .int far, rfl, pa, b, high, wide, rs, t, l, dw, ac, tall, far, 0, rfl, pb14.same s15, O0, fun r4 xs4 H16 s16 _ hr4 tn4 => ?_⟩
        have s156 := s15.trans s16
        exact ⟨_, _, .lst (SqL.of (s16 _ _ hr3)) (dp_tin (tn3.same s16)), .lst (SqL.of hr4) (dp_tin tn4), shaped_tins _, shaped_tins _, _, rfl, iteE (eq_tins _) ⟨_, _, _, _, _, _, _, rfl, s156 _ _ hp14, (D14.same s156).le (by omega), dn8.trans (dn14.trans (Do.same s156))⟩⟩
      · rintro σ H8 ⟨y8, y9, y10, y11, y12, y13, y14, rfl, hp8, D8, dn8⟩
        exact ⟨_, _, _, _, _, _, _, _, _, _, _, _, _, _, rfl, doB dn8⟩
    · rintro σ H2 ⟨y1, y2, y3, y4, y5, y6, y7, y8, y9, y10, y11, y12, y13, y14, rfl, sm⟩
      exact q _
end
end Dt
namespace Dt
open PySem PySem.Spec PyProof.Rows L2 L2X
abbrev BndT (nm : Str) (st : Stmt) (ps : List Str) : Prop := ∀ (kV doc pm : Value) (an : Option Addr) (cdv ct : Value) (us : List Value), us.length = ps.length → bindArgs (PySem.W.fnOf nm nm (defArgs st) (defBody st) (defScope st) .none kV doc pm an cdv ct) ⟨us, []⟩ = pure (ps.zip us)
abbrev BndM (nm qn : Str) (st : Stmt) (ps : List Str) : Prop := ∀ (kV doc pm : Value) (an : Option Addr) (cdv ct : Value) (us : List Value), us.length = ps.length → bindArgs (PySem.W.fnOf nm qn (defArgs st) (defBody st) (defScope st) .none kV doc pm an cdv ct) ⟨us, []⟩ = pure (ps.zip us)
theorem df_mk {K : PySem.W.Frag} {h : Heap} {mg : Str → Option Value} {nm : Str} {st : Stmt} {ps : List Str} {f : Addr} {oc : Value} {od an : Option Addr} {osl : Array (Option Value)} {kV doc pm cdv ct : Value} (X : K.In h) (G : h.Ns mainGlobals mg)
    (a : PySem.W.nsIn K mainGlobals nm = some (some (.ref f))) (l : K.lookup f = some ⟨oc, od, .func (PySem.W.fnOf nm nm (defArgs st) (defBody st) (defScope st) .none kV doc pm an cdv ct), osl⟩) (c : PySem.W.codeIn K cdv nm = true) (k : PySem.W.keepIn K (.ref f) = true) (hb : BndT nm st ps) : Df K mg nm st ps :=
  have F := fun_mk (st := st) l c k
  ⟨f, _, F, PySem.W.mg_of X G a, F.binds (ps := ps) hb⟩
theorem gli_mk {K : PySem.W.Frag} {h : Heap} {mg : Str → Option Value} {nm : Str} {i : Int} {t : Tok} (X : K.In h) (G : h.Ns mainGlobals mg) (a : PySem.W.nsIn K mainGlobals nm = some (some (.int i t))) : ∃ t, mg nm = some (.int i t) := ⟨t, PySem.W.mg_of X G a⟩
theorem exN_mk {K : PySem.W.Frag} {h : Heap} {mg : Str → Option Value} {nm : Str} {C : Addr} (X : K.In h) (G : h.Ns mainGlobals mg) (a : PySem.W.nsIn K mainGlobals nm = some (some (.ref C))) (x : PySem.W.excIn K C [.type "ValueError", .type "Exception", .type "BaseException", .type "object"] "ValueError.__new__" = true) (k : PySem.W.keepIn K (.ref C) = true) (b : PySem.W.subIn K (.ref C) (.type "BaseException") = some true) (t : PySem.W.typeIn K (.ref C) = some (.type "type")) : ExN K mg nm C :=
  ⟨PySem.W.mg_of X G a, x, k, b, t⟩
theorem bnd0 : BndT "_law_begun" sBg ["cell", "k"] := fun _ _ _ _ _ _ us hl => match us, hl with | [_, _], _ => rfl
theorem bnd1 : BndT "_law_next" sNx ["draw", "below"] := fun _ _ _ _ _ _ us hl => match us, hl with | [_, _], _ => rfl
theorem bnd2 : BndT "_law_pick" sPk ["draw", "some"] := fun _ _ _ _ _ _ us hl => match us, hl with | [_, _], _ => rfl
theorem bnd3 : BndT "_law_blank" sBk ["deep", "wide"] := fun _ _ _ _ _ _ us hl => match us, hl with | [_, _], _ => rfl
theorem bnd4 : BndT "_law_told" sTd ["page"] := fun _ _ _ _ _ _ us hl => match us, hl with | [_], _ => rfl
theorem bnd5 : BndT "_law_page" sPg ["draw"] := fun _ _ _ _ _ _ us hl => match us, hl with | [_], _ => rfl
theorem bnd6 : BndT "_law_due" sDue ["picture", "box", "tall", "far", "lead"] := fun _ _ _ _ _ _ us hl => match us, hl with | [_, _, _, _, _], _ => rfl
theorem bnd7 : BndT "is_text" sIsText ["thing"] := fun _ _ _ _ _ _ us hl => match us, hl with | [_], _ => rfl
theorem bnd8 : BndT "_is_row" sIsRow ["thing"] := fun _ _ _ _ _ _ us hl => match us, hl with | [_], _ => rfl
theorem bnd9 : BndT "is_picture" sIsPic ["thing"] := fun _ _ _ _ _ _ us hl => match us, hl with | [_], _ => rfl
theorem bnd10 : BndT "want_picture" sWant ["thing"] := fun _ _ _ _ _ _ us hl => match us, hl with | [_], _ => rfl
theorem bnd11 : BndT "size" sSize ["picture"] := fun _ _ _ _ _ _ us hl => match us, hl with | [_], _ => rfl
theorem bnd12 : BndT "is_number" sIsNum ["thing"] := fun _ _ _ _ _ _ us hl => match us, hl with | [_], _ => rfl
theorem bnd13 : BndT "is_between" sBetw ["thing", "least", "most"] := fun _ _ _ _ _ _ us hl => match us, hl with | [_, _, _], _ => rfl
theorem bnd14 : BndT "is_tuple" sIsTup ["thing", "many"] := fun _ _ _ _ _ _ us hl => match us, hl with | [_, _], _ => rfl
theorem bnd15 : BndT "_is_stretch" sStr ["start", "many", "whole"] := fun _ _ _ _ _ _ us hl => match us, hl with | [_, _, _], _ => rfl
theorem bnd16 : BndT "cut_out" sCut ["picture", "top", "left", "high", "wide"] := fun _ _ _ _ _ _ us hl => match us, hl with | [_, _, _, _, _], _ => rfl
theorem bnd17 : BndT "_has_dots" sHD ["rows"] := fun _ _ _ _ _ _ us hl => match us, hl with | [_], _ => rfl
theorem bnd18 : BndT "_line_box" sLB ["box", "start", "behind"] := fun _ _ _ _ _ _ us hl => match us, hl with | [_, _, _], _ => rfl
theorem bnd19 : BndT "_want_box" sWB ["picture", "thing"] := fun _ _ _ _ _ _ us hl => match us, hl with | [_, _], _ => rfl
structure AllD (K : PySem.W.Frag) (mg : Str → Option Value) : Prop where
  d0 : Df K mg "_law_begun" sBg ["cell", "k"]
  d1 : Df K mg "_law_next" sNx ["draw", "below"]
  d2 : Df K mg "_law_pick" sPk ["draw", "some"]
  d3 : Df K mg "_law_blank" sBk ["deep", "wide"]
  d4 : Df K mg "_law_told" sTd ["page"]
  d5 : Df K mg "_law_page" sPg ["draw"]
  d6 : Df K mg "_law_due" sDue ["picture", "box", "tall", "far", "lead"]
  d7 : Df K mg "is_text" sIsText ["thing"]
  d8 : Df K mg "_is_row" sIsRow ["thing"]
  d9 : Df K mg "is_picture" sIsPic ["thing"]
  d10 : Df K mg "want_picture" sWant ["thing"]
  d11 : Df K mg "size" sSize ["picture"]
  d12 : Df K mg "is_number" sIsNum ["thing"]
  d13 : Df K mg "is_between" sBetw ["thing", "least", "most"]
  d14 : Df K mg "is_tuple" sIsTup ["thing", "many"]
  d15 : Df K mg "_is_stretch" sStr ["start", "many", "whole"]
  d16 : Df K mg "cut_out" sCut ["picture", "top", "left", "high", "wide"]
  d17 : Df K mg "_has_dots" sHD ["rows"]
  d18 : Df K mg "_line_box" sLB ["box", "start", "behind"]
  d19 : Df K mg "_want_box" sWB ["picture", "thing"]
  lo : ∃ f fd, FnLO K f fd ∧ mg "lines_of" = some (.ref f)
structure AllN (K : PySem.W.Frag) (mg : Str → Option Value) (C CP : Addr) : Prop where
  z0 : mg "len" = none
  z1 : mg "range" = none
  z2 : mg "tuple" = none
  z3 : mg "list" = none
  z4 : mg "int" = none
  z5 : mg "type" = none
  z6 : mg "str" = none
  z7 : mg "all" = none
  z8 : mg "any" = none
  z9 : mg "enumerate" = none
  z10 : mg "isinstance" = none
  z11 : mg "max" = none
  z12 : mg "min" = none
  i0 : ∃ t, mg "MOST_ROWS" = some (.int 60 t)
  i1 : ∃ t, mg "MOST_COLUMNS" = some (.int 120 t)
  i2 : ∃ t, mg "MOST_HIGH" = some (.int 9 t)
  i3 : ∃ t, mg "MOST_BAND" = some (.int 60 t)
  n : Tn K mg C
  np : ExN K mg "NoPlace" CP
section
variable {P : Program} {w : World} {K : PySem.W.Frag} {mg : Str → Option Value} {base : Heap} {C CP : Addr}
theorem facts (D : AllD K mg) (N : AllN K mg C CP) {f : Addr} {fd : FuncData} (F : Fun K "law" "law" sLaw f fd) : FnOk P w K mg base CX0 12 f fd ["script"] (spLaw K) := by
  have X : Tx mg := ⟨N.z0, N.z1, N.z2, N.z3, N.z4⟩
  have T : Tp mg := ⟨N.z5, N.z6, N.z7, N.i0, N.i1⟩
  have nxt : ∀ k, Pm P w K mg base CX0 (k + 1) "_law_next" ["draw", "below"] spNx := fun k => .of D.d1 fun f fd F => ok_nx F
  have pck : ∀ k, Pm P w K mg base CX0 (k + 2) "_law_pick" ["draw", "some"] (spPk K) := fun k => .of D.d2 fun f fd F => by
    obtain ⟨_, _, G, m, kp, b⟩ := (nxt k).ex
    exact ok_pk F X _ _ G m kp b
  have blk : ∀ k, Pm P w K mg base CX0 (k + 1) "_law_blank" ["deep", "wide"] spBk := fun k => .of D.d3 fun f fd F => ok_bk F X
  have tld : ∀ k, Pm P w K mg base CX0 (k + 1) "_law_told" ["page"] spTd := fun k => .of D.d4 fun f fd F => ok_td F X
  have pag : ∀ k, Pm P w K mg base CX0 (k + 3) "_law_page" ["draw"] spPg := fun k => .of D.d5 fun f fd F => ok_pg (k := k) F X N.z12 (nxt (k + 1)) (pck k) (blk (k + 1)) (tld (k + 1))
  have isT : ∀ k, Pm P w K mg base CX0 (k + 1) "is_text" ["thing"] (spIsText K) := fun k => .of D.d7 fun f fd F => ok_isText F T
  have isR : ∀ k, Pm P w K mg base CX0 (k + 2) "_is_row" ["thing"] (spIsRow K) := fun k => .of D.d8 fun f fd F => by
    obtain ⟨_, _, G, m, kp, b⟩ := (isT k).ex
    exact ok_isRow F T X G m kp b
  have isP : ∀ k, Pm P w K mg base CX0 (k + 3) "is_picture" ["thing"] (spIsPic K) := fun k => .of D.d9 fun f fd F => by
    obtain ⟨_, _, G, m, kp, b⟩ := (isR k).ex
    exact ok_isPic (k := k + 1) F T X G m kp b
  have wnt : ∀ k, GW P w K mg base C (k + 4) := fun k => by
    obtain ⟨fW, fdW, FW, mW, bW⟩ := (D.d10).ex
    obtain ⟨_, _, G, m, kp, b⟩ := (isP k).ex
    exact ⟨fW, fdW, ok_want (k := k + 2) FW N.n G m kp b, mW, FW.kp, bW⟩
  have siz : ∀ k, GS P w K mg base C (k + 5) := fun k => by
    obtain ⟨f, fd, F, m, b⟩ := (D.d11).ex
    exact ⟨f, fd, ok_size (k := k + 3) F X (wnt k), m, F.kp, b⟩
  have isN : ∀ k, Pm P w K mg base CX0 (k + 1) "is_number" ["thing"] (spIsNum K) := fun k => .of D.d12 fun f fd F => ok_isNum F T X
  have btw : ∀ k, Pm P w K mg base CX0 (k + 2) "is_between" ["thing", "least", "most"] (spBetw K) := fun k => .of D.d13 fun f fd F => by
    obtain ⟨_, _, G, m, kp, b⟩ := (isN k).ex
    exact ok_betw F G m kp b
  have isU : ∀ k, Pm P w K mg base CX0 (k + 1) "is_tuple" ["thing", "many"] (spIsTup K) := fun k => .of D.d14 fun f fd F => ok_isTup F T X
  have str : ∀ k, Pm P w K mg base CX0 (k + 3) "_is_stretch" ["start", "many", "whole"] (spStr K) := fun k => .of D.d15 fun f fd F => ok_str (k := k) F (isN k) (btw k)
  have cut : ∀ k, Pm P w K mg base (L2.CX P w) (k + 6) "cut_out" ["picture", "top", "left", "high", "wide"] (spCut K CP) := fun k => .of D.d16 fun f fd F => ok_cut (k := k + 2) F X N.np (siz k) (str (k + 2))
  have hsd : ∀ k, Pm P w K mg base CX0 (k + 1) "_has_dots" ["rows"] spHD := fun k => .of D.d17 fun f fd F => ok_hd F N.z8
  have lbx : ∀ k, Pm P w K mg base CX0 (k + 1) "_line_box" ["box", "start", "behind"] spLB := fun k => .of D.d18 fun f fd F => ok_lb F N.z11 N.z12
  have wbx : ∀ k, Pm P w K mg base CX0 (k + 7) "_want_box" ["picture", "thing"] spWB := fun k => .of D.d19 fun f fd F => ok_wb (k := k + 5) F (wnt (k + 2)) (isU (k + 5)) (cut k)
  obtain ⟨fO, fdO, FO, mO⟩ := D.lo
  have GO : FnOk P w K mg base CX0 11 fO fdO ["picture", "box", "high", "pitch", "above"] (spLO K) := ok_lo (k := 9) FO X N.i2 N.i3 (wbx 3) (btw 8) (lbx 9) (hsd 9) (cut 4)
  exact ok_law (k := 10) F X N.z9 N.z10 (.of D.d0 fun f fd F => ok_bg (k := 10) F N.z11) (nxt 10) (pck 9) (pag 8) (.of D.d6 fun f fd F => ok_due (k := 10) F X N.z8) FO GO mO
end
theorem lo_mk {K : PySem.W.Frag} {h : Heap} {mg : Str → Option Value} {f Dk : Addr} {t : Tok} {oc : Value} {od an : Option Addr} {osl : Array (Option Value)} {doc pm cdv ct : Value} (X : K.In h) (G : h.Ns mainGlobals mg)
    (a : PySem.W.nsIn K mainGlobals "lines_of" = some (some (.ref f))) (l : K.lookup f = some ⟨oc, od, .func (PySem.W.fnOf "lines_of" "lines_of" (defArgs sLO) (defBody sLO) (defScope sLO) .none (.ref Dk) doc pm an cdv ct), osl⟩) (c : PySem.W.codeIn K cdv "lines_of" = true) (k : PySem.W.keepIn K (.ref f) = true)
    (n : PySem.W.nsIn K Dk "above" = some (some (.int 0 t))) : ∃ f fd, FnLO K f fd ∧ mg "lines_of" = some (.ref f) :=
  ⟨f, _, ⟨⟨oc, od, .none, .ref Dk, doc, pm, an, cdv, ct, osl, rfl, l, c, .inl ⟨rfl, rfl⟩, .inr ⟨Dk, rfl, fun q hq => by rw [List.mem_singleton.mp hq]; exact ⟨_, n, t, rfl⟩⟩⟩, k⟩, PySem.W.mg_of X G a⟩
theorem end_mk39 {l : PySem.W.OpenLaw} {w : World} {K : PySem.W.Frag} {h : Heap} {mg : Str → Option Value} {fa f4 C CP : Addr} {oc : Value} {od an : Option Addr} {osl : Array (Option Value)} {kV doc pm cdv ct : Value} (X : K.In h) (G : h.Ns mainGlobals mg) (hfa : mg "law" = some (.ref fa))
    (a4 : PySem.W.nsIn K mainGlobals "law" = some (some (.ref f4))) (l4 : K.lookup f4 = some ⟨oc, od, .func (PySem.W.fnOf "law" "law" (defArgs sLaw) (defBody sLaw) (defScope sLaw) .none kV doc pm an cdv ct), osl⟩) (c4 : PySem.W.codeIn K cdv "law" = true) (k4 : PySem.W.keepIn K (.ref f4) = true)
    (D : AllD K mg) (N : AllN K mg C CP) :
    ∃ fd : FuncData, (∀ (s : Shared) (v : Value), BindsTo s fd ⟨[v], []⟩ [("script", v)]) ∧ ∀ base : Heap, K.In base → base.Ns mainGlobals mg → FnOk l.prog w K mg base CX0 12 fa fd ["script"] (spLaw K) := by
  have e := hfa.symm.trans (PySem.W.mg_of X G a4)
  cases e
  exact ⟨PySem.W.fnOf "law" "law" (defArgs sLaw) (defBody sLaw) (defScope sLaw) .none kV doc pm an cdv ct, fun s v => .of_eq rfl, fun base _ _ => facts D N (fun_mk l4 c4 k4)⟩
theorem walk {l : PySem.W.OpenLaw} {q : Program} {loose : List Str} {XP : (Str → Option Value) → Heap → Prop} {YP : World → Heap → Prop} {d : DefRec} {K : Params → PySem.W.Frag} (hn : l.most = some 63) (hdf : d.params.defaults = [])
    (hY : ∀ (w : World) (h : Heap), YP w h → (K w.params).In h)
    (F : ∀ (w : World) (mg : Str → Option Value) (fa : Addr) (h : Heap), (K w.params).In h → h.Ns mainGlobals mg → mg d.name = some (.ref fa) →
      ∃ fd : FuncData, (∀ (s : Shared) (u : Value), BindsTo s fd ⟨[u], []⟩ [("script", u)]) ∧ ∀ base : Heap, (K w.params).In base → base.Ns mainGlobals mg → FnOk l.prog w (K w.params) mg base CX0 12 fa fd ["script"] (spLaw (K w.params))) :
    PySem.W.WalkO q loose XP YP l.row.toRowW d [] (fun f vs => PySem.call f vs) :=
  L2.walk_of (n := 63) (k := 12) (x := "script") (CX := fun _ => CX0) (sp := fun w => spLaw (K w.params)) hn (by decide) hdf ⟨rfl, by decide, by decide⟩ hY F (fun _ _ a ns hl _ hS => ⟨a, ns, rfl, hS, hl, fun _ => rfl⟩) fun _ _ _ _ _ z => z
end Dt
open PySem PySem.W PyProof.Rows
set_option maxRecDepth 100000 in
set_option maxHeartbeats 0 in
theorem PySem.Challenge.cw_dotread_k39_lines_in_boxes_holds : PySem.Challenge.rw_dotread_k39_lines_in_boxes.Holds := by
  w_on; o_law; k_head; (case hw => w_witness2)
  k_fill
  refine Dt.walk (l := PySem.Challenge.rw_dotread_k39_lines_in_boxes) rfl rfl (fun w h Y => PySem.W.kIn_of Y) ?F
  case F =>
    intro w mg fa h KX G hmg
    refine' Dt.end_mk39 KX G hmg ?aL ?lL ?cL ?kL ⟨Dt.df_mk KX G ?a0 ?l0 ?c0 ?k0 Dt.bnd0, Dt.df_mk KX G ?a1 ?l1 ?c1 ?k1 Dt.bnd1, Dt.df_mk KX G ?a2 ?l2 ?c2 ?k2 Dt.bnd2, Dt.df_mk KX G ?a3 ?l3 ?c3 ?k3 Dt.bnd3, Dt.df_mk KX G ?a4 ?l4 ?c4 ?k4 Dt.bnd4, Dt.df_mk KX G ?a5 ?l5 ?c5 ?k5 Dt.bnd5, Dt.df_mk KX G ?a6 ?l6 ?c6 ?k6 Dt.bnd6, Dt.df_mk KX G ?a7 ?l7 ?c7 ?k7 Dt.bnd7, Dt.df_mk KX G ?a8 ?l8 ?c8 ?k8 Dt.bnd8, Dt.df_mk KX G ?a9 ?l9 ?c9 ?k9 Dt.bnd9, Dt.df_mk KX G ?a10 ?l10 ?c10 ?k10 Dt.bnd10, Dt.df_mk KX G ?a11 ?l11 ?c11 ?k11 Dt.bnd11, Dt.df_mk KX G ?a12 ?l12 ?c12 ?k12 Dt.bnd12, Dt.df_mk KX G ?a13 ?l13 ?c13 ?k13 Dt.bnd13, Dt.df_mk KX G ?a14 ?l14 ?c14 ?k14 Dt.bnd14, Dt.df_mk KX G ?a15 ?l15 ?c15 ?k15 Dt.bnd15, Dt.df_mk KX G ?a16 ?l16 ?c16 ?k16 Dt.bnd16, Dt.df_mk KX G ?a17 ?l17 ?c17 ?k17 Dt.bnd17, Dt.df_mk KX G ?a18 ?l18 ?c18 ?k18 Dt.bnd18, Dt.df_mk KX G ?a19 ?l19 ?c19 ?k19 Dt.bnd19, Dt.lo_mk KX G ?oa ?ol ?oc ?ok ?on⟩ ⟨mg_none_of KX G ?z0, mg_none_of KX G ?z1, mg_none_of KX G ?z2, mg_none_of KX G ?z3, mg_none_of KX G ?z4, mg_none_of KX G ?z5, mg_none_of KX G ?z6, mg_none_of KX G ?z7, mg_none_of KX G ?z8, mg_none_of KX G ?z9, mg_none_of KX G ?z10, mg_none_of KX G ?z11, mg_none_of KX G ?z12, Dt.gli_mk KX G ?i0, Dt.gli_mk KX G ?i1, Dt.gli_mk KX G ?i2, Dt.gli_mk KX G ?i3, ⟨mg_of KX G ?nC2, ?nx, ?nk, ?nb, ?nt⟩, Dt.exN_mk KX G ?nP2 ?px ?pk ?pb ?pt⟩
    (case nC2 => k_is)
    (case nP2 => k_is)
    (case aL => k_is)
    (case lL => k_is)
    (case cL => k_is)
    (case kL => k_is)
    (case a0 => k_is)
    (case l0 => k_is)
    (case c0 => k_is)
    (case k0 => k_is)
    (case a1 => k_is)
    (case l1 => k_is)
    (case c1 => k_is)
    (case k1 => k_is)
    (case a2 => k_is)
    (case l2 => k_is)
    (case c2 => k_is)
    (case k2 => k_is)
    (case a3 => k_is)
    (case l3 => k_is)
    (case c3 => k_is)
    (case k3 => k_is)
    (case a4 => k_is)
    (case l4 => k_is)
    (case c4 => k_is)
    (case k4 => k_is)
    (case a5 => k_is)
    (case l5 => k_is)
    (case c5 => k_is)
    (case k5 => k_is)
    (case a6 => k_is)
    (case l6 => k_is)
    (case c6 => k_is)
    (case k6 => k_is)
    (case a7 => k_is)
    (case l7 => k_is)
    (case c7 => k_is)
    (case k7 => k_is)
    (case a8 => k_is)
    (case l8 => k_is)
    (case c8 => k_is)
    (case k8 => k_is)
    (case a9 => k_is)
    (case l9 => k_is)
    (case c9 => k_is)
    (case k9 => k_is)
    (case a10 => k_is)
    (case l10 => k_is)
    (case c10 => k_is)
    (case k10 => k_is)
    (case a11 => k_is)
    (case l11 => k_is)
    (case c11 => k_is)
    (case k11 => k_is)
    (case a12 => k_is)
    (case l12 => k_is)
    (case c12 => k_is)
    (case k12 => k_is)
    (case a13 => k_is)
    (case l13 => k_is)
    (case c13 => k_is)
    (case k13 => k_is)
    (case a14 => k_is)
    (case l14 => k_is)
    (case c14 => k_is)
    (case k14 => k_is)
    (case a15 => k_is)
    (case l15 => k_is)
    (case c15 => k_is)
    (case k15 => k_is)
    (case a16 => k_is)
    (case l16 => k_is)
    (case c16 => k_is)
    (case k16 => k_is)
    (case a17 => k_is)
    (case l17 => k_is)
    (case c17 => k_is)
    (case k17 => k_is)
    (case a18 => k_is)
    (case l18 => k_is)
    (case c18 => k_is)
    (case k18 => k_is)
    (case a19 => k_is)
    (case l19 => k_is)
    (case c19 => k_is)
    (case k19 => k_is)
    (case oa => k_is)
    (case ol => k_is)
    (case oc => k_is)
    (case ok => k_is)
    (case on => k_is)
    (case z0 => k_is)
    (case z1 => k_is)
    (case z2 => k_is)
    (case z3 => k_is)
    (case z4 => k_is)
    (case z5 => k_is)
    (case z6 => k_is)
    (case z7 => k_is)
    (case z8 => k_is)
    (case z9 => k_is)
    (case z10 => k_is)
    (case z11 => k_is)
    (case z12 => k_is)
    (case i0 => k_is)
    (case i1 => k_is)
    (case i2 => k_is)
    (case i3 => k_is)
    (case nk => k_is)
    (case nb => k_is)
    (case nt => k_is)
    (case pk => k_is)
    (case pb => k_is)
    (case pt => k_is)
    (case nx => first | kernel_rfl | decide +kernel | rfl)
    (case px => first | kernel_rfl | decide +kernel | rfl)
#print axioms PySem.Challenge.cw_dotread_k39_lines_in_boxes_holds
