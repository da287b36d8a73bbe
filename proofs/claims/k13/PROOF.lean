import PyProof.Rows.All
import Wide.All
import OpenK.AllK
import Wide.FinOn
import HandS.ForMost
import HandS.Wide
import HandS.Codes
import PySem.Challenge.RW_dotread_k13_lines_drawn_by_readings
import PyProof.TypeEq
import PyProof.InstEq
import PyProof.StrBlock2
import HandS.TupMul
import HandS.TupAny
import HandS.More
import PyProof.ListStr
import HandS.ForExc
import HandS.Zip
import KE.GoesMore
import KE.GoesZip
import KE.GoesEnum
import HandS.Deep
import HandS.List
import HandS.Text
import HandS.WideBits
import HandS.ExcValue
import HandS.ExcIs
import HandS.Lambda
import HandS.EndTab
import PyProof.ReprRoads
import HandS.SetFor
import HandS.IsInst
import HandS.ExcInit
import HandS.ExcField
import KE.KExcIs
import HandS.CallLocal
import HandS.Defaults
import HandS.MakeKwOnly
import HandS.StrMore
import HandS.Style
import KE.KRevSl
import HandS.TryOnly
import HandS.Flow
set_option Elab.async false
set_option linter.all false
set_option maxRecDepth 100000
set_option maxHeartbeats 4000000
namespace Dt
open PySem PySem.Spec PyProof.Rows L2
def topS (i : Nat) : Stmt := PySem.Challenge.pw_dotread_k13_lines_drawn_by_readings.main.body.getD i (.Pass ⟨0, 0, 0, 0⟩)
theorem inr_ne {a b : Str} (h : ¬ a = b) : ¬ (Sum.inr a : Key) = Sum.inr b := fun z => h (Sum.inr.inj z)
theorem same_upd {H : Hp} {p : Addr} {o : HO} (h : H p = none) : Same H (upd H p o) := fun b x e => by
  rw [upd_ne (ne_of_none e h)]
  exact e
theorem dpInts {K : PySem.W.Frag} {H : Hp} : ∀ ns : List Int, DpAll K H (ns.map V.int) (ns.map PyData.int)
  | [] => .nil
  | n :: r => .cons (.int n) (dpInts r)
end Dt
/-! rules of our own: types compared, a text times a number -/
namespace TyNe
open PySem PySem.TypeEq
open Sem (wp)
open Builtin
theorem slot_type_ne : Slot "type" (cmpInfo .NotEq).2.1 "object.__ne__" :=
  .of (owner := "object") (n := "__ne__") (by rw [typeLookup_type, builtinLookup_eq_fast]; kernel_rfl) (by decide +kernel) (by decide +kernel) (by decide +kernel)
    (by first | exact .inl (by decide +kernel) | exact .inr (by decide +kernel)) (by rw [isSubtype_type]; kernel_rfl)
theorem slot_type_ne2 : Slot "type" (cmpInfo .NotEq).2.2 "object.__ne__" :=
  .of (owner := "object") (n := "__ne__") (by rw [typeLookup_type, builtinLookup_eq_fast]; kernel_rfl) (by decide +kernel) (by decide +kernel) (by decide +kernel)
    (by first | exact .inl (by decide +kernel) | exact .inr (by decide +kernel)) (by rw [isSubtype_type]; kernel_rfl)
section
variable {prog : Program} {w : World} {A : Around} {E : Value → Shared → Prop} {s : Shared}
theorem call_ne_same {X : String} {Q : Value → Shared → Prop} (hX : ∀ s' : Shared, s'.TypeIs (.type X) "type") (h : Q (.bool false) s) : wpAny (model prog w) A (call (.builtin "object.__ne__") [.type X, .type X]) Q E s := by
  refine wpAny_call (codeAny_call_builtin slot_type_ne.plain F.cmpEntry_ne (slot_type_ne.check _ _ _ _ _ _ _ _ (hX s) (F.cmpArgs_ne _ _) ?_))
  unfold Builtin.«object.__ne__»
  repeat (first
    | with_reducible refine wpAny_cRoomFor_or (.inl rfl) ?_
    | (refine wpAny_bind (m := callSpecialIfBound? (.type X) (Str.ofString "__eq__") [.type X])
        (wpAny_callSpecialIfBound?_slot (hX _) slot_type_eq (call_gives slot_type_eq (hX _) F.entry_object_eq (F.args_object_eq_2 _ _) (object_eq_same rfl (by simp)) ?_)))
    | wp_step)
  show wpAny (model prog w) A.in1 (truthy (.bool true) >>= fun b => ret (.bool !b)) _ _ _
  exact wpAny_bind (wpAny_truthy_bool (wpAny_pure h))
theorem call_ne_other {X Y : String} {Q : Value → Shared → Prop} (hX : ∀ s' : Shared, s'.TypeIs (.type X) "type") (hne : (Value.type X == Value.type Y) = false) (h : Q .notImplemented s) : wpAny (model prog w) A (call (.builtin "object.__ne__") [.type X, .type Y]) Q E s := by
  refine wpAny_call (codeAny_call_builtin slot_type_ne.plain F.cmpEntry_ne (slot_type_ne.check _ _ _ _ _ _ _ _ (hX s) (F.cmpArgs_ne _ _) ?_))
  unfold Builtin.«object.__ne__»
  repeat (first
    | with_reducible refine wpAny_cRoomFor_or (.inl rfl) ?_
    | (refine wpAny_bind (m := callSpecialIfBound? (.type X) (Str.ofString "__eq__") [.type Y])
        (wpAny_callSpecialIfBound?_slot (hX _) slot_type_eq (call_gives slot_type_eq (hX _) F.entry_object_eq (F.args_object_eq_2 _ _) (object_eq_other rfl hne) ?_)))
    | wp_step)
  show wpAny (model prog w) A.in1 (ret .notImplemented) _ _ _
  exact wpAny_pure h
theorem ne_type_same {X : String} {Q : Value → Shared → Prop} (hX : ∀ s' : Shared, s'.TypeIs (.type X) "type") (h : Q (.bool false) s) : wpAny (model prog w) A (compareOp .NotEq (.type X) (.type X)) Q E s := by
  show wpAny _ A (richCompare .NotEq _ _) Q E s
  exact wpAny_richCompare_same (T := "type") (hX s) (hX s) slot_type_ne (call_ne_same hX ⟨(by intro e; cases e), h⟩)
theorem ne_type_other {X Y : String} {Q : Value → Shared → Prop} (hX : ∀ s' : Shared, s'.TypeIs (.type X) "type") (hY : ∀ s' : Shared, s'.TypeIs (.type Y) "type") (hne : (Value.type X == Value.type Y) = false) (h : Q (.bool true) s) :
    wpAny (model prog w) A (compareOp .NotEq (.type X) (.type Y)) Q E s := by
  have hne' : (Value.type Y == Value.type X) = false := by
    rw [Bool.eq_false_iff] at hne ⊢
    intro e
    exact hne (by rw [beq_iff_eq] at e ⊢; exact e.symm)
  show wpAny _ A (richCompare .NotEq _ _) Q E s
  have h1 := slot_type_ne
  have h2 := slot_type_ne2
  rcases hi : cmpInfo CmpOp.NotEq with ⟨sym, f, r⟩
  rw [hi] at h1 h2
  simp only [richCompare, hi, (hX s).oneThing_none]
  try with_reducible refine wpAny_holding ?_
  refine wpAny_bind (wpAny_cRoomFor_or (.inl rfl) ?_)
  refine wpAny_bind (wpAny_typeOf (hX s) (wpAny_bind (wpAny_typeOf (hY s) ?_)))
  simp only [bne_self_eq_false, Bool.false_eq_true, if_false, pure_bind, Bool.not_false, if_true]
  refine wpAny_bind (m := tryCompare _ _ _) (wpAny_tryCompare_declines (hX s) h1 (call_ne_other hX hne ⟨rfl, ?_⟩))
  refine wpAny_bind (m := tryCompare _ _ _) (wpAny_tryCompare_declines (hY _) h2 (call_ne_other hY hne' ⟨rfl, ?_⟩))
  refine wpAny_bind (wpAny_rule (wpAny_bind (wpAny_of_eq (a := false) (by rw [isSame_plain rfl, hne]) (wpAny_pure h))))
end
end TyNe
namespace L2X
open PySem PySem.Spec PyProof.Rows L2
/-- the built-in classes that are compared here -/
def tyOk (a : String) : Bool := a = "int" ∨ a = "str" ∨ a = "bool" ∨ a = "NoneType" ∨ a = "list" ∨ a = "tuple" ∨ a = "dict"
theorem tyOk_is {a : String} (h : tyOk a = true) : ∀ s' : Shared, s'.TypeIs (.type a) "type" := by
  unfold tyOk at h
  rcases of_decide_eq_true h with rfl | rfl | rfl | rfl | rfl | rfl | rfl
  · exact TypeEq.meta_int
  · exact TypeEq.meta_str
  · exact TypeEq.meta_bool
  · exact TypeEq.meta_NoneType
  · exact TypeEq.meta_list
  · exact TypeEq.meta_tuple
  · exact TypeEq.meta_dict
theorem ty_ne {a b : String} (h : a ≠ b) : (Value.type a == Value.type b) = false := beq_eq_false_iff_ne.mpr fun z => h (Value.type.inj z)
def rTyC (g : Bool → Bool) : R2 := fun x y H Q => ∃ a b, x = .ty a ∧ y = .ty b ∧ tyOk a = true ∧ tyOk b = true ∧ Q (.bl (g (decide (a = b)))) H
section
variable {X : Cx}
theorem op_eq_ty : OpR X (compareOp .Eq) (rTyC id) := by
  intro pins s σ H x y v u Q I rx ry h
  obtain ⟨a, b, rfl, rfl, ha, hb, q⟩ := h
  cases (show v = Value.type a from rx)
  cases (show u = Value.type b from ry)
  by_cases e : a = b
  · subst e
    refine TypeEq.eq_type_same (tyOk_is ha) ⟨.bl true, H, I, rfl, ?_⟩
    rw [decide_eq_true rfl] at q
    exact q
  · refine TypeEq.eq_type_other (tyOk_is ha) (tyOk_is hb) (ty_ne e) ⟨.bl false, H, I, rfl, ?_⟩
    rw [decide_eq_false e] at q
    exact q
theorem op_ne_ty : OpR X (compareOp .NotEq) (rTyC not) := by
  intro pins s σ H x y v u Q I rx ry h
  obtain ⟨a, b, rfl, rfl, ha, hb, q⟩ := h
  cases (show v = Value.type a from rx)
  cases (show u = Value.type b from ry)
  by_cases e : a = b
  · subst e
    refine TyNe.ne_type_same (tyOk_is ha) ⟨.bl false, H, I, rfl, ?_⟩
    rw [decide_eq_true rfl] at q
    exact q
  · refine TyNe.ne_type_other (tyOk_is ha) (tyOk_is hb) (ty_ne e) ⟨.bl true, H, I, rfl, ?_⟩
    rw [decide_eq_false e] at q
    exact q
/-- text * n -/
theorem op_mul_str : OpR X (binaryOp .Mult) (fun x y H Q => ∃ z n, x = .str z ∧ y = .int n ∧ MulOk z n ∧ Q (.str (Txt.mul z n)) H) := by
  intro pins s σ H x y v u Q I rx ry h
  obtain ⟨z, n, rfl, rfl, hk, q⟩ := h
  obtain ⟨t, rfl⟩ := rx
  obtain ⟨t', rfl⟩ := ry
  exact SB.mul hk fun t' k => ⟨.str _, H, I.tok _, ⟨_, rfl⟩, q⟩
end
end L2X
namespace Dt
open PySem PySem.Spec PyProof.Rows L2 L2X
open SX (S)
/-- the built-ins that are named in the text -/
structure Tx (mg : Str → Option Value) : Prop where
  len : mg "len" = none
  range : mg "range" = none
  tuple : mg "tuple" = none
  list : mg "list" = none
  int : mg "int" = none
/-! ### rows and pictures -/
def rv (l : List Nat) : V := .str (S l)
structure RowR (wide : Nat) (l : List Nat) : Prop where
  len : l.length = wide
  sg : ∀ c ∈ l, c = 35 ∨ c = 46
structure PicR (high wide : Nat) (rs : List (List Nat)) : Prop where
  len : rs.length = high
  row : ∀ l ∈ rs, RowR wide l
  h0 : 1 ≤ high
  h1 : high ≤ 60
  w0 : 1 ≤ wide
  w1 : wide ≤ 120
theorem s_dot : ("." : Str) = S [46] := by decide +kernel
theorem s_hash : ("#" : Str) = S [35] := by decide +kernel
theorem s_empty : ("" : Str) = S [] := by decide +kernel
/-! ### a sign many times; signs joined -/
theorem fold_rep (c : Nat) : ∀ (n : Nat) (acc : Array Nat), (List.replicate n #[c]).foldl (· ++ ·) acc = acc ++ (List.replicate n c).toArray
  | 0, acc => by simp
  | n + 1, acc => by
    rw [List.replicate_succ, List.foldl_cons, fold_rep c n (acc ++ #[c]), List.replicate_succ]
    apply Array.ext'
    simp
theorem mul_sign (c n : Nat) (h : 1 ≤ n) : Txt.mul (S [c]) (n : Int) = S (List.replicate n c) := by
  unfold Txt.mul
  rw [if_neg (by omega)]
  by_cases e : n = 1
  · subst e
    rfl
  · have e1 : (((n : Int) == 1) || (S [c]).length == 0) = false := by
      have a1 : ((n : Int) == 1) = false := by
        rw [beq_eq_false_iff_ne]
        omega
      rw [a1]
      rfl
    rw [e1, if_neg Bool.false_ne_true]
    have q := fold_rep c n #[]
    show (⟨(List.replicate (n : Int).toNat #[c]).foldl (· ++ ·) #[]⟩ : Str) = _
    rw [Int.toNat_natCast, q]
    simp [S]
theorem mul_ok (c n : Nat) (h : 1 ≤ n) (h2 : n ≤ 120) : MulOk (S [c]) (n : Int) := by
  refine ⟨?_, fun _ _ => ?_, fun _ _ => ?_⟩
  · rw [Bool.or_eq_false_iff, decide_eq_false_iff_not, decide_eq_false_iff_not]
    omega
  · show ¬ ((1 : Nat) : Int) > (2 ^ 63 - 1) / (n : Int)
    have : (1 : Int) ≤ (2 ^ 63 - 1) / (n : Int) := (Int.le_ediv_iff_mul_le (by omega)).mpr (by omega)
    omega
  · have e : (S [c]).length * (n : Int).toNat = n := by
      show 1 * (n : Int).toNat = n
      omega
    rw [e]
    unfold Builtin.Str.tooLong
    have z : n ≤ sizeLine := Nat.le_of_lt (small1000 (by omega))
    first
      | (rw [decide_eq_false_iff_not]; omega)
      | (simp; omega)
theorem joinL_ones : ∀ cs : List Nat, TL.joinL [] (cs.map fun c => [c]) = cs
  | [] => rfl
  | [c] => rfl
  | c :: d :: r => by
    show [c] ++ ([] ++ TL.joinL [] ((d :: r).map fun c => [c])) = _
    rw [joinL_ones (d :: r)]
    rfl
theorem join_ones (cs : List Nat) : Txt.join "" (cs.map fun c => S [c]) = S cs := by
  rw [s_empty]
  have e := SX.join_S [] (cs.map fun c => [c])
  rw [joinL_ones, List.map_map] at e
  exact e
theorem lens_ones : ∀ cs : List Nat, ((cs.map fun c => S [c]).map (·.length)).sum = cs.length
  | [] => rfl
  | c :: r => by
    show 1 + ((r.map fun c => S [c]).map (·.length)).sum = r.length + 1
    rw [lens_ones r, Nat.add_comm]
theorem row_rep (c wide : Nat) (h : c = 35 ∨ c = 46) : RowR wide (List.replicate wide c) := ⟨List.length_replicate, fun x hx => by rw [(List.mem_replicate.mp hx).2]; exact h⟩
end Dt
namespace Dt
open PySem PySem.Spec PyProof.Rows L2 L2X
open SX (S)
/-! ### what is a picture -/
def rowOk : V → Bool
  | .str x => decide (1 ≤ x.length) && decide (x.length ≤ 120) && decide (Txt.count x "#" + Txt.count x "." = (x.length : Int))
  | _ => false
theorem rowOk_str (x : Str) : rowOk (.str x) = (decide (1 ≤ x.length) && decide (x.length ≤ 120) && decide (Txt.count x "#" + Txt.count x "." = (x.length : Int))) := rfl
def lenV : V → Int
  | .str x => x.length
  | _ => 0
def picOk (xs : List V) : Bool := decide (1 ≤ xs.length) && decide (xs.length ≤ 60) && xs.all rowOk && xs.all fun y => decide (lenV y = lenV (xs.headD .non))
/-- a thing of a known kind -/
def Kn (K : PySem.W.Frag) (H : Hp) (x : V) : Prop := (∃ T, TyB K H x T ∧ tyOk T = true) ∧ ∀ z, x = .str z → z.length ≤ sizeLine
structure Tp (mg : Str → Option Value) : Prop where
  typ : mg "type" = none
  str : mg "str" = none
  all : mg "all" = none
  mr : ∃ t, mg "MOST_ROWS" = some (.int 60 t)
  mc : ∃ t, mg "MOST_COLUMNS" = some (.int 120 t)
abbrev sIsText : Stmt := topS 18
theorem scIsText : FnScope ["thing"] ["thing"] (defScope sIsText) := ⟨rfl, rfl, rfl, by decide +kernel, rfl, by decide +kernel, by decide +kernel⟩
def isStr : V → Bool
  | .str _ => true
  | _ => false
def spIsText (K : PySem.W.Frag) : Sp := fun vs H Q _ => ∃ x, vs = [x] ∧ Kn K H x ∧ Q (.bl (isStr x)) H
abbrev sIsRow : Stmt := topS 25
theorem scIsRow : FnScope ["thing"] ["thing"] (defScope sIsRow) := ⟨rfl, rfl, rfl, by decide +kernel, rfl, by decide +kernel, by decide +kernel⟩
def spIsRow (K : PySem.W.Frag) : Sp := fun vs H Q _ => ∃ x, vs = [x] ∧ Kn K H x ∧ Q (.bl (rowOk x)) H
theorem isStr_ty {K : PySem.W.Frag} {H : Hp} {x : V} {T : String} (t : TyB K H x T) : decide (T = "str") = isStr x := by
  cases t <;> rfl
section
variable {P : Program} {w : World} {K : PySem.W.Frag} {mg : Str → Option Value} {base : Heap}
theorem ok_isText {f : Addr} {fd : FuncData} {k : Nat} (F : Fun K "is_text" "is_text" sIsText f fd) (T : Tp mg) : FnOk P w K mg base CX0 (k + 1) f fd ["thing"] (spIsText K) := by
  refine F.ok scIsText (fun vs H Q E h => ?_) (fun cdv A outer s H vs Q E hr h => ?_)
  · obtain ⟨x, rfl, _⟩ := h
    rfl
  · obtain ⟨x, rfl, ⟨⟨Ty, ht, ok⟩, _⟩, q⟩ := h
    refine ⟨_, pss_one (ps_ret (pe_cmpR op_eq_ty (pe_callTy call_type1 (by rfl) T.typ (by decide +kernel) (pa_cons (pv 0) pa_nil)) (pe_bltn (v := .ty "str") (u := .type "str") (by rfl) T.str (by decide +kernel) rfl) (nomark _))), ?_⟩
    refine ⟨x, rfl, x, Ty, rfl, ht, Ty, "str", rfl, rfl, ok, rfl, ?_⟩
    have e : id (decide (Ty = "str")) = isStr x := isStr_ty ht
    rw [e]
    exact q
theorem ok_isRow {f fT : Addr} {fd fdT : FuncData} {k : Nat} (F : Fun K "_is_row" "_is_row" sIsRow f fd) (T : Tp mg) (X : Tx mg) (GT : FnOk P w K mg base CX0 (k + 1) fT fdT ["thing"] (spIsText K)) (mT : mg "is_text" = some (.ref fT)) (kT : PySem.W.keepIn K (.ref fT) = true) (bT : Binds K fdT ["thing"] []) : FnOk P w K mg base CX0 (k + 2) f fd ["thing"] (spIsRow K) := by
  refine F.ok scIsRow (fun vs H Q E h => ?_) (fun cdv A outer s H vs Q E hr h => ?_)
  · obtain ⟨x, rfl, _⟩ := h
    rfl
  · obtain ⟨x, rfl, kn, q⟩ := h
    obtain ⟨t, hmc⟩ := T.mc
    refine ⟨_, pss_cons (ps_if (PW.pt (pw_or (pt_not (pt_val (pe_call GT hr (by rfl) mT kT bT .nil pass0 (pa_cons (pv 0) pa_nil)))) (pw_or1 (pt_not (pt_chain op_le op_le pe_int (pe_callB call_len_str (by rfl) X.len PySem.boot_len (pa_cons (pv 0) pa_nil)) (pe_glob (v := .int 120) (by rfl) hmc ⟨_, rfl⟩))))))
        (pss_one (ps_ret pe_bl)) pss_nil)
      (pss_one (ps_ret (pe_cmpR op_eq (pe_op op_add (pe_m1 PySem.F.slot_str_count PySem.F.type_str_count mt_count (pv 0) pe_str) (pe_m1 PySem.F.slot_str_count PySem.F.type_str_count mt_count (pv 0) pe_str)) (pe_callB call_len_str (by rfl) X.len PySem.boot_len (pa_cons (pv 0) pa_nil)) (nomark _)))), ?_⟩
    refine ⟨x, rfl, x, rfl, kn, _, rfl, ?_⟩
    cases x with
    | str z =>
      have hz := kn.2 z rfl
      refine iteF ?_
      refine ⟨.str z, rfl, z, rfl, hz, 1, _, rfl, rfl, _, rfl, ?_⟩
      refine ite2 (fun e => ?_) (fun e => ?_)
      · refine ⟨_, 120, rfl, rfl, _, rfl, ite2 (fun e2 => ?_) (fun e2 => ?_)⟩
        · have e3 : ¬ z.length ≤ 120 := fun le => by
            have : decide ((z.length : Int) ≤ 120) = true := decide_eq_true (by omega)
            rw [this] at e2
            cases e2
          have e4 : rowOk (.str z) = false := by
            rw [rowOk_str, decide_eq_false e3, Bool.and_false, Bool.false_and]
          rw [e4] at q
          exact q
        · have e3 : z.length ≤ 120 := by
            have h1 : ¬ ((!decide ((z.length : Int) ≤ 120)) = true) := e2
            have h2 : decide ((z.length : Int) ≤ 120) = true := by
              cases hh : decide ((z.length : Int) ≤ 120) with
              | true => rfl
              | false =>
                rw [hh] at h1
                exact absurd rfl h1
            have := of_decide_eq_true h2
            omega
          have e1 : 1 ≤ z.length := by
            have := of_decide_eq_true e
            omega
          refine ⟨.str z, rfl, ⟨_, rfl⟩, z, "#", rfl, rfl, .str z, rfl, ⟨_, rfl⟩, z, ".", rfl, rfl, _, _, rfl, rfl, .str z, rfl, z, rfl, hz, rfl, ?_⟩
          have e4 : rowOk (.str z) = decide (V.int (Txt.count z "#" + Txt.count z ".") = V.int (z.length : Int)) := by
            rw [rowOk_str, decide_eq_true e1, decide_eq_true e3, Bool.true_and, Bool.true_and]
            exact Bool.eq_iff_iff.mpr ⟨fun h => decide_eq_true (congrArg V.int (of_decide_eq_true h)), fun h => decide_eq_true (V.int.inj (of_decide_eq_true h))⟩
          rw [e4] at q
          exact q
      · have e1 : ¬ 1 ≤ z.length := fun le => e (decide_eq_true (by omega))
        have e4 : rowOk (.str z) = false := by
          rw [rowOk_str, decide_eq_false e1, Bool.false_and, Bool.false_and]
        rw [e4] at q
        exact ⟨_, rfl, q⟩
    | _ => exact iteT (iteT q)
/-! ### is_picture -/
abbrev sIsPic : Stmt := topS 24
theorem scIsPic : FnScope ["thing", "row"] ["thing"] (defScope sIsPic) := ⟨rfl, rfl, rfl, by decide +kernel, rfl, by decide +kernel, by decide +kernel⟩
/-- a thing as is_picture may be asked: no tuple, or a tuple whose items are of known kinds -/
def Asked (K : PySem.W.Frag) (H : Hp) (x : V) (b : Bool) : Prop :=
  (∃ T, TyB K H x T ∧ tyOk T = true ∧ T ≠ "tuple" ∧ b = false) ∨ ∃ a xs, x = .ref a ∧ SqT K H a xs ∧ (xs.length ≤ 60 → ∀ y ∈ xs, Kn K H y) ∧ b = picOk xs
def spIsPic (K : PySem.W.Frag) : Sp := fun vs H Q _ => ∃ x b, vs = [x] ∧ Asked K H x b ∧ ∀ H', Same H H' → Q (.bl b) H'
theorem sameT {K : PySem.W.Frag} {H H' : Hp} {a : Addr} {xs : List V} (e : Same H H') (h : SqT K H a xs) : SqT K H' a xs := by
  rcases h with (h | ⟨o, h⟩) | h
  · exact .inl (.inl (e _ _ h))
  · exact .inl (.inr ⟨o, e _ _ h⟩)
  · exact .inr h
theorem Kn.same {H H' : Hp} {x : V} (h : Kn K H x) (s : Same H H') : Kn K H' x := by
  obtain ⟨⟨T, t, ok⟩, hz⟩ := h
  refine ⟨⟨T, ?_, ok⟩, hz⟩
  cases t with
  | non => exact .non
  | bl b => exact .bl b
  | int i => exact .int i
  | str x => exact .str x
  | byt b => exact .byt b
  | lst h => exact .lst (s.seq h)
  | tup h => exact .tup (sameT s h)
  | dK h => exact .dK (s _ _ h)
theorem iteE {c : Bool} {A B : Prop} (e : c = false) (h : B) : if c = true then A else B := by
  rw [e]
  exact iteF h
theorem iteY {c : Bool} {A B : Prop} (e : c = true) (h : A) : if c = true then A else B := by
  rw [e]
  exact iteT h
theorem take_snoc {α : Type} {xs : List α} {i : Nat} {x : α} (h : xs[i]? = some x) : xs.take (i + 1) = xs.take i ++ [x] := by
  rw [List.take_add_one, h]
  rfl
theorem all_map_id {α : Type} (f : α → Bool) : ∀ xs : List α, (xs.map f).all id = xs.all f
  | [] => rfl
  | x :: r => by
    show (id (f x) && (r.map f).all id) = (f x && r.all f)
    rw [all_map_id f r]
    rfl
theorem bls {α : Type} (f : α → Bool) (xs : List α) : xs.map (fun y => V.bl (f y)) = (xs.map f).map V.bl := by
  rw [List.map_map]
  rfl
theorem ok_isPic {f fR : Addr} {fd fdR : FuncData} {k : Nat} (F : Fun K "is_picture" "is_picture" sIsPic f fd) (T : Tp mg) (X : Tx mg) (GR : FnOk P w K mg base CX0 (k + 1) fR fdR ["thing"] (spIsRow K)) (mR : mg "_is_row" = some (.ref fR)) (kR : PySem.W.keepIn K (.ref fR) = true) (bR : Binds K fdR ["thing"] []) : FnOk P w K mg base CX0 (k + 2) f fd ["thing"] (spIsPic K) := by
  refine F.ok scIsPic (fun vs H Q E h => ?_) (fun cdv A outer s H vs Q E hr h => ?_)
  · obtain ⟨x, b, rfl, _⟩ := h
    rfl
  · obtain ⟨x, b, rfl, ask, q⟩ := h
    obtain ⟨t, hmr⟩ := T.mr
    have nd := scIsPic.nd
    refine ⟨_, pss_cons (ps_if (PW.pt (pw_or (pt_cmpR op_ne_ty (pe_callTy call_type1 (by rfl) T.typ (by decide +kernel) (pa_cons (pv 0) pa_nil)) (pe_bltn (v := .ty "tuple") (u := .type "tuple") (by rfl) X.tuple (by decide +kernel) rfl) (nomark _)) (pw_or1 (pt_not (pt_chain op_le op_le pe_int (pe_callB call_len_seq (by rfl) X.len PySem.boot_len (pa_cons (pv 0) pa_nil)) (pe_glob (v := .int 60) (by rfl) hmr ⟨_, rfl⟩))))))
        (pss_one (ps_ret pe_bl)) pss_nil)
      (pss_cons (ps_if (pt_not (pt_val (pe_callB (cr_all rfl) (by rfl) T.all (by decide +kernel) (pa_cons (pe_lc (own := [("row", 1)]) (g := gName 1) (tt := tYes) rfl nd (pi_tup (pv 0)) (blkOk_by (N := ["thing", "row"]) (sc := defScope sIsPic) (by decide +kernel)) (fun _ _ _ _ _ => pg_name (i := 1) nd rfl (Or.inl rfl)) (fun _ _ _ _ _ => pts_nil)
            (fun _ _ _ _ _ => pe_call GR hr (by rfl) mR kR bR .nil pass0 (pa_cons (pv 1) pa_nil))) pa_nil)))) (pss_one (ps_ret pe_bl)) pss_nil)
      (pss_one (ps_ret (pe_callB (cr_all rfl) (by rfl) T.all (by decide +kernel) (pa_cons (pe_lc (own := [("row", 1)]) (g := gName 1) (tt := tYes) rfl nd (pi_tup (pv 0)) (blkOk_by (N := ["thing", "row"]) (sc := defScope sIsPic) (by decide +kernel)) (fun _ _ _ _ _ => pg_name (i := 1) nd rfl (Or.inl rfl)) (fun _ _ _ _ _ => pts_nil)
            (fun _ _ _ _ _ => pe_cmpR op_eq (pe_callB call_len_str (by rfl) X.len PySem.boot_len (pa_cons (pv 1) pa_nil)) (pe_callB call_len_str (by rfl) X.len PySem.boot_len (pa_cons (pe_ix (r := rIxT K) ix_tup (pv 0) pe_int (fun _ _ => rfl)) pa_nil)) (nomark _))) pa_nil))))), ?_⟩
    rcases ask with ⟨Ty, ht, ok, ne, rfl⟩ | ⟨a, xs, rfl, hx, kn, rfl⟩
    · refine ⟨x, rfl, x, Ty, rfl, ht, Ty, "tuple", rfl, rfl, ok, rfl, _, rfl, ?_⟩
      have e : not (decide (Ty = "tuple")) = true := by rw [decide_eq_false ne]; rfl
      exact iteY e (q H (Same.refl H))
    · refine ⟨.ref a, rfl, .ref a, "tuple", rfl, .tup hx, "tuple", "tuple", rfl, rfl, rfl, rfl, _, rfl, iteE (by decide) ?_⟩
      refine ⟨.ref a, rfl, a, xs, rfl, .inr hx, 1, _, rfl, rfl, _, rfl, ite2 (fun e => ?_) (fun e => ?_)⟩
      · have e1 : 1 ≤ xs.length := by
          have := of_decide_eq_true e
          omega
        refine ⟨_, 60, rfl, rfl, _, rfl, ite2 (fun e2 => ?_) (fun e2 => ?_)⟩
        · have e3 : ¬ xs.length ≤ 60 := fun le => by
            have : decide ((xs.length : Int) ≤ 60) = true := decide_eq_true (by omega)
            rw [this] at e2
            cases e2
          have z : picOk xs = false := by
            unfold picOk
            rw [decide_eq_false e3, Bool.and_false, Bool.false_and, Bool.false_and]
          rw [z] at q
          exact q H (Same.refl H)
        · have e3 : xs.length ≤ 60 := by
            have h1 : ¬ ((!decide ((xs.length : Int) ≤ 60)) = true) := e2
            have h2 : decide ((xs.length : Int) ≤ 60) = true := by
              cases hh : decide ((xs.length : Int) ≤ 60) with
              | true => rfl
              | false =>
                rw [hh] at h1
                exact absurd rfl h1
            have := of_decide_eq_true h2
            omega
          have kn' := kn e3
          refine ⟨.ref a, rfl, a, rfl, ⟨_, hx⟩, fun Dd hDd => lc_tup (K := K) (a := a) (xs := xs) (fun i H2 => Same H H2 ∧ H2 Dd = some (.lst ((xs.take i).map fun y => V.bl (rowOk y)))) ⟨same_upd hDd, upd_same⟩ (fun i H2 _ z => sameT z.1 hx) ?_ ?_⟩
          · rintro i y H2 hi ⟨sm, h2⟩
            have hm : y ∈ xs := List.mem_of_getElem? hi
            refine ⟨rfl, y, rfl, y, rfl, (kn' y hm).same sm, _, h2, ?_, ?_, ?_⟩
            · rw [List.length_map, List.length_take]
              exact small1000 (by omega)
            · exact fun b o e => by
                rw [upd_ne (ne_of_none e hDd)]
                exact sm _ _ e
            · rw [upd_same, take_snoc hi, List.map_append]
              rfl
          · rintro H2 ⟨sm, h2⟩
            rw [List.take_length, bls] at h2
            refine ⟨Dd, xs.map rowOk, rfl, SqL.of h2, _, rfl, ?_⟩
            rw [all_map_id]
            cases eall : xs.all rowOk with
            | false =>
              have z : picOk xs = false := by
                unfold picOk
                rw [eall, Bool.and_false, Bool.false_and]
              rw [z] at q
              exact q H2 sm
            | true =>
              have hx2 : SqT K H2 a xs := sameT sm hx
              obtain ⟨x0, r0, rfl⟩ : ∃ x0 r0, xs = x0 :: r0 := by
                cases xs with
                | nil => exact absurd e1 (by decide)
                | cons x0 r0 => exact ⟨x0, r0, rfl⟩
              have isS : ∀ y ∈ x0 :: r0, ∃ z : Str, y = .str z ∧ z.length ≤ sizeLine := fun y hy => by
                have h := List.all_eq_true.mp eall y hy
                cases y with
                | str z => exact ⟨z, rfl, (kn' _ hy).2 z rfl⟩
                | _ => cases h
              obtain ⟨z0, ez0, hz0⟩ := isS x0 List.mem_cons_self
              refine ⟨.ref a, rfl, a, rfl, ⟨_, hx2⟩, fun D2 hD2 => lc_tup (K := K) (a := a) (xs := x0 :: r0) (fun i H3 => Same H2 H3 ∧ H3 D2 = some (.lst (((x0 :: r0).take i).map fun y => V.bl (decide (lenV y = lenV x0))))) ⟨same_upd hD2, upd_same⟩ (fun i H3 _ z => sameT z.1 hx2) ?_ ?_⟩
              · rintro i y H3 hi ⟨sm3, h3⟩
                have hm : y ∈ x0 :: r0 := List.mem_of_getElem? hi
                obtain ⟨zy, ey, hzy⟩ := isS y hm
                refine ⟨rfl, y, rfl, zy, by rw [ey], hzy, .ref a, rfl, a, x0 :: r0, 0, x0, rfl, rfl, sameT sm3 hx2, atI_nat (j := 0) rfl, z0, by rw [ez0], hz0, rfl, _, h3, ?_, ?_, ?_⟩
                · rw [List.length_map, List.length_take]
                  exact small1000 (by omega)
                · exact fun b o e => by
                    rw [upd_ne (ne_of_none e hD2)]
                    exact sm3 _ _ e
                · rw [upd_same, take_snoc hi, List.map_append]
                  have e5 : decide (V.int (zy.length : Int) = V.int (z0.length : Int)) = decide (lenV y = lenV x0) := by
                    rw [ey, ez0]
                    exact Bool.eq_iff_iff.mpr ⟨fun h => decide_eq_true (V.int.inj (of_decide_eq_true h)), fun h => decide_eq_true (congrArg V.int (of_decide_eq_true h))⟩
                  rw [e5]
                  rfl
              · rintro H3 ⟨sm3, h3⟩
                rw [List.take_length, bls] at h3
                refine ⟨D2, _, rfl, SqL.of h3, ?_⟩
                rw [all_map_id]
                have z : picOk (x0 :: r0) = (x0 :: r0).all fun y => decide (lenV y = lenV x0) := by
                  unfold picOk
                  rw [eall, decide_eq_true e1, decide_eq_true e3]
                  rfl
                rw [z] at q
                exact q H3 (sm.trans sm3)
      · have e1 : ¬ 1 ≤ xs.length := fun le => e (decide_eq_true (by omega))
        have z : picOk xs = false := by
          unfold picOk
          rw [decide_eq_false e1, Bool.false_and, Bool.false_and, Bool.false_and]
        rw [z] at q
        exact ⟨_, rfl, q H (Same.refl H)⟩
end
end Dt
namespace L2X
open PySem PySem.Spec PyProof.Rows L2
section
variable {X : Cx}
/-- a tuple once is itself -/
theorem tuple_mul1 (l : Addr) (items : Array Value) (n : Nat) (dd : Option Addr) (sl : Array (Option Value)) (u : Tok) :
    Meets (Builtin.«tuple.__mul__» ⟨[.ref l, .int 1 u], []⟩) (fun _ R s => s.heap.get? l = some { cls := .type "tuple", dict := dd, data := .seq items n, slots := sl } ∧ R (.ok (.ret (Value.ref l))) s) :=
  .of_wp fun prog w A R s h => by
    obtain ⟨hp, g, d, tk, os⟩ := s
    obtain ⟨hl, h⟩ := h
    have f1 := AutoSeq1.idx_int
    wp_walk using wpAny_loadPart' hl
    exact ⟨_, rfl, h⟩
/-- list(text) -/
theorem vals_signs : ∀ (l : List Nat) (its : List Value), l.length = its.length → (∀ (j : Nat) (v : Value), its[j]? = some v → ∃ (c : Nat) (u : Tok), l[j]? = some c ∧ v = Value.str ⟨#[c]⟩ u) → Vals (l.map fun c => V.str ⟨#[c]⟩) its
  | [], [], _, _ => .nil
  | [], _ :: _, h, _ => by cases h
  | _ :: _, [], h, _ => by cases h
  | c :: r, v :: t, h, g => by
    obtain ⟨c', u, e1, e2⟩ := g 0 v rfl
    have e3 : c = c' := Option.some.inj e1
    subst e3
    refine .cons ⟨u, e2⟩ (vals_signs r t (Nat.succ.inj h) fun j w e => ?_)
    obtain ⟨c2, u2, e4, e5⟩ := g (j + 1) w e
    exact ⟨c2, u2, e4, e5⟩
theorem call_listS (hc : X.calm = true) : CallR X (.type "list") (fun xs H Q => ∃ x : Str, xs = [.str x] ∧ x.length ≤ sizeLine ∧ ∀ l, H l = none → Q (.ref l) (upd H l (.lst (x.cps.toList.map fun c => V.str ⟨#[c]⟩)))) := by
  intro pins s σ H xs us Q I r h
  obtain ⟨x, rfl, hx, q⟩ := h
  obtain ⟨u, rfl, t, rfl⟩ := vals1 r
  refine call_list_str (I.ok.hd hc) x t (fun h' tk acc c' keeps got it => ?_) hx
  have hl : x.cps.toList.length = acc.toList.length := by
    rw [Array.length_toList, Array.length_toList, it.1]
  have vs := vals_signs x.cps.toList acc.toList hl fun j v e => by
    obtain ⟨c, u', e1, e2⟩ := it.2 j v (by rw [← Array.getElem?_toList]; exact e)
    exact ⟨c, u', by rw [Array.getElem?_toList]; exact e1, e2⟩
  refine ⟨.ref s.heap.objs.size, _, I.laid (t' := tk) keeps (Nat.le_refl _) ?_, rfl, q _ (I.hok.fresh (Nat.le_refl _))⟩
  refine ⟨?_, acc.toList, c', vs, ?_⟩
  · rw [List.length_map]
    exact hx
  · rw [got]
/-- t * n, n from 1 on -/
def rRepA (K : PySem.W.Frag) : R2 := fun x y H Q => ∃ l k xs, x = .ref l ∧ y = .int k ∧ SqT K H l xs ∧ xs ≠ [] ∧ 1 ≤ k ∧ k ≤ 1000 ∧ xs.length ≤ 1000 ∧ (k = 1 → Q (.ref l) H) ∧ (2 ≤ k → ∀ p, H p = none → Q (.ref p) (upd H p (.tup (List.replicate k.toNat xs).flatten)))
theorem op_repA : OpR X (binaryOp .Mult) (rRepA X.K) := by
  intro pins s σ H x y v u Q I rx ry h
  obtain ⟨l, k, xs, rfl, rfl, hT, hne, h1, h2, hz, q1, q2⟩ := h
  by_cases e1 : k = 1
  · subst e1
    cases rx
    obtain ⟨t, rfl⟩ := ry
    obtain ⟨its, _, ⟨⟨cls, dd, data, sl⟩, got, hc, n, hd⟩, _⟩ := I.tuple hT
    simp only at hc hd
    subst hc hd
    have once := tuple_mul1 l its.toArray n dd sl t
    have back := int_rmul_tuple 1 t l its.toArray n dd sl
    refine wpAny_binaryOp_repeat_ref (T := "tuple") (U := "int") (by decide) ⟨_, got, rfl⟩ (fun s' => typeIs_int s' 1 t)
      noFill_tuple_mul F.fills_int_mul F.slot_int_rmul repeat_tuple F.slot_int_index.lookup ?_
    refine call_meets F.slot_int_rmul (typeIs_int s 1 t) F.entry_int_rmul (F.args_int_rmul_2 _ _) back ⟨got, rfl, ⟨_, got, rfl⟩, ?_⟩
    refine call_meets F.slot_tuple_mul ⟨_, got, rfl⟩ F.entry_tuple_mul (F.args_tuple_mul_2 _ _) once ⟨got, ?_⟩
    exact ⟨.ref l, H, I, rfl, q1 rfl⟩
  · exact op_repT pins s σ H _ _ v u Q I rx ry ⟨l, k, xs, rfl, rfl, hT, hne, by omega, h2, hz, q2 (by omega)⟩
end
end L2X
namespace Dt
open PySem PySem.Spec PyProof.Rows L2 L2X
open SX (S)
/-! ### rows and pictures by their signs -/
theorem cnt_two : ∀ l : List Nat, cnt 35 l + cnt 46 l ≤ l.length ∧ (cnt 35 l + cnt 46 l = l.length ↔ ∀ c ∈ l, c = 35 ∨ c = 46)
  | [] => ⟨by rw [cnt_nil, cnt_nil]; exact Int.le_refl _, by rw [cnt_nil, cnt_nil]; exact ⟨fun _ _ h => (List.not_mem_nil h).elim, fun _ => rfl⟩⟩
  | n :: r => by
    obtain ⟨h1, h2⟩ := cnt_two r
    rw [cnt_cons, cnt_cons, List.length_cons]
    have e : ∀ c ∈ n :: r, (c = 35 ∨ c = 46) ↔ True ∧ (c = 35 ∨ c = 46) := fun c _ => by simp
    by_cases a : n = 35
    · subst a
      rw [if_pos rfl, if_neg (by decide)]
      refine ⟨by omega, ⟨fun z => ?_, fun z => ?_⟩⟩
      · have z2 := h2.mp (by omega)
        intro c hc
        rcases List.mem_cons.mp hc with q | q
        · exact .inl q
        · exact z2 c q
      · have := h2.mpr fun c hc => z c (List.mem_cons_of_mem _ hc)
        omega
    · by_cases b : n = 46
      · subst b
        rw [if_neg (by decide), if_pos rfl]
        refine ⟨by omega, ⟨fun z => ?_, fun z => ?_⟩⟩
        · have z2 := h2.mp (by omega)
          intro c hc
          rcases List.mem_cons.mp hc with q | q
          · exact .inr q
          · exact z2 c q
        · have := h2.mpr fun c hc => z c (List.mem_cons_of_mem _ hc)
          omega
      · rw [if_neg a, if_neg b]
        refine ⟨by omega, ⟨fun z => by omega, fun z => ?_⟩⟩
        rcases z n List.mem_cons_self with q | q
        · exact absurd q a
        · exact absurd q b
theorem rowOk_S (l : List Nat) : rowOk (.str (S l)) = (decide (1 ≤ l.length) && decide (l.length ≤ 120) && decide (∀ c ∈ l, c = 35 ∨ c = 46)) := by
  have e : decide (Txt.count (S l) "#" + Txt.count (S l) "." = ((S l).length : Int)) = decide (∀ c ∈ l, c = 35 ∨ c = 46) := by
    rw [s_hash, s_dot, count_cnt, count_cnt, SX.S_len]
    exact Bool.eq_iff_iff.mpr ⟨fun h => decide_eq_true ((cnt_two l).2.mp (of_decide_eq_true h)), fun h => decide_eq_true ((cnt_two l).2.mpr (of_decide_eq_true h))⟩
  rw [rowOk_str, e, SX.S_len]
theorem rowOk_rv {wide : Nat} {l : List Nat} (h : RowR wide l) (w0 : 1 ≤ wide) (w1 : wide ≤ 120) : rowOk (rv l) = true := by
  unfold rv
  rw [rowOk_S, h.len, decide_eq_true w0, decide_eq_true w1, decide_eq_true h.sg]
  rfl
theorem rowOk_bad {l : List Nat} {c : Nat} (hc : c ∈ l) (h1 : c ≠ 35) (h2 : c ≠ 46) : rowOk (.str (S l)) = false := by
  rw [rowOk_S, decide_eq_false (p := ∀ c ∈ l, c = 35 ∨ c = 46), Bool.and_false]
  intro z
  rcases z c hc with q | q
  · exact h1 q
  · exact h2 q
theorem rowOk_len {l : List Nat} (h : l.length = 0 ∨ 120 < l.length) : rowOk (.str (S l)) = false := by
  rw [rowOk_S]
  rcases h with h | h
  · rw [decide_eq_false (by omega : ¬ 1 ≤ l.length)]
    rfl
  · rw [decide_eq_false (by omega : ¬ l.length ≤ 120), Bool.and_false, Bool.false_and]
theorem lenV_S (l : List Nat) : lenV (.str (S l)) = (l.length : Int) := by
  show ((S l).length : Int) = _
  rw [SX.S_len]
theorem picOk_pic {high wide : Nat} {rs : List (List Nat)} (h : PicR high wide rs) : picOk (rs.map rv) = true := by
  unfold picOk
  have a1 : decide (1 ≤ (rs.map rv).length) = true := decide_eq_true (by rw [List.length_map, h.len]; exact h.h0)
  have a2 : decide ((rs.map rv).length ≤ 60) = true := decide_eq_true (by rw [List.length_map, h.len]; exact h.h1)
  have a3 : (rs.map rv).all rowOk = true := List.all_eq_true.mpr fun y hy => by
    obtain ⟨l, hl, rfl⟩ := List.mem_map.mp hy
    exact rowOk_rv (h.row l hl) h.w0 h.w1
  have len : ∀ y ∈ rs.map rv, lenV y = (wide : Int) := fun y hy => by
    obtain ⟨l, hl, rfl⟩ := List.mem_map.mp hy
    unfold rv
    rw [lenV_S, (h.row l hl).len]
  have a4 : ((rs.map rv).all fun y => decide (lenV y = lenV ((rs.map rv).headD .non))) = true := List.all_eq_true.mpr fun y hy => by
    refine decide_eq_true ?_
    rw [len y hy]
    cases e : rs.map rv with
    | nil =>
      rw [e] at hy
      cases hy
    | cons x r =>
      have z := len x (by rw [e]; exact List.mem_cons_self)
      exact z.symm
  rw [a1, a2, a3, a4]
  rfl
/-- one row put in the place of another: no picture -/
theorem picOk_odd {high wide r : Nat} {rs : List (List Nat)} {one : V} (h : PicR high wide rs) (hr : r < high) (b : rowOk one = false ∨ (2 ≤ high ∧ lenV one ≠ (wide : Int))) :
    picOk ((rs.map rv).take r ++ [one] ++ (rs.map rv).drop (r + 1)) = false := by
  cases e : picOk ((rs.map rv).take r ++ [one] ++ (rs.map rv).drop (r + 1)) with
  | false => rfl
  | true =>
    exfalso
    unfold picOk at e
    rw [Bool.and_eq_true, Bool.and_eq_true, Bool.and_eq_true] at e
    obtain ⟨⟨⟨_, _⟩, e3⟩, e4⟩ := e
    have m1 : one ∈ (rs.map rv).take r ++ [one] ++ (rs.map rv).drop (r + 1) := by simp
    rcases b with b | ⟨b1, b2⟩
    · have z := List.all_eq_true.mp e3 one m1
      rw [b] at z
      cases z
    · have len : ∀ y ∈ rs.map rv, lenV y = (wide : Int) := fun y hy => by
        obtain ⟨l, hl, rfl⟩ := List.mem_map.mp hy
        unfold rv
        rw [lenV_S, (h.row l hl).len]
      obtain ⟨y, m2, hy⟩ : ∃ y, y ∈ (rs.map rv).take r ++ [one] ++ (rs.map rv).drop (r + 1) ∧ y ∈ rs.map rv := by
        have hl : (rs.map rv).length = high := by rw [List.length_map, h.len]
        by_cases hr0 : r = 0
        · subst hr0
          have : 1 < (rs.map rv).length := by omega
          refine ⟨(rs.map rv)[1], ?_, List.getElem_mem _⟩
          refine List.mem_append_right _ ?_
          exact List.mem_of_getElem? (i := 0) (by rw [List.getElem?_drop, List.getElem?_eq_getElem this])
        · have : 0 < (rs.map rv).length := by omega
          refine ⟨(rs.map rv)[0], ?_, List.getElem_mem _⟩
          refine List.mem_append_left _ (List.mem_append_left _ ?_)
          exact List.mem_of_getElem? (i := 0) (by rw [List.getElem?_take, if_pos (by omega), List.getElem?_eq_getElem this])
      have z1 := of_decide_eq_true (List.all_eq_true.mp e4 one m1)
      have z2 := of_decide_eq_true (List.all_eq_true.mp e4 y m2)
      exact b2 (z1.trans (z2.symm.trans (len y hy)))
end Dt
namespace Dt
open PySem PySem.Spec PyProof.Rows L2 L2X
open SX (S)
/-! ### refusals -/
/-- the class NoPicture, as the top has made it, at C -/
structure Tn (K : PySem.W.Frag) (mg : Str → Option Value) (C : Addr) : Prop where
  g : mg "NoPicture" = some (.ref C)
  x : PySem.W.excIn K C [.type "ValueError", .type "Exception", .type "BaseException", .type "object"] "ValueError.__new__" = true
  k : PySem.W.keepIn K (.ref C) = true
  b : PySem.W.subIn K (.ref C) (.type "BaseException") = some true
  t : PySem.W.typeIn K (.ref C) = some (.type "type")
abbrev sWant : Stmt := topS 26
theorem scWant : FnScope ["thing"] ["thing"] (defScope sWant) := ⟨rfl, rfl, rfl, by decide +kernel, rfl, by decide +kernel, by decide +kernel⟩
def spWant (K : PySem.W.Frag) (C : Addr) : Sp := fun vs H Q E => ∃ x b, vs = [x] ∧ Asked K H x b ∧ (b = true → ∀ H', Same H H' → Q .non H') ∧ (b = false → ∀ H', Same H H' → E (.ref C) none H')
section
variable {P : Program} {w : World} {K : PySem.W.Frag} {mg : Str → Option Value} {base : Heap} {C : Addr}
theorem ok_want {f fP : Addr} {fd fdP : FuncData} {k : Nat} (F : Fun K "want_picture" "want_picture" sWant f fd) (N : Tn K mg C) (GP : FnOk P w K mg base CX0 (k + 1) fP fdP ["thing"] (spIsPic K)) (mP : mg "is_picture" = some (.ref fP)) (kP : PySem.W.keepIn K (.ref fP) = true) (bP : Binds K fdP ["thing"] []) :
    FnOk P w K mg base (L2.CX P w) (k + 2) f fd ["thing"] (spWant K C) := by
  refine F.okX scWant (fun vs H Q E h => ?_) (fun cdv A outer s H vs Q E hr h => ?_)
  · obtain ⟨x, b, rfl, _⟩ := h
    rfl
  · obtain ⟨x, b, rfl, ask, q1, q2⟩ := h
    refine ⟨_, pss_one (ps_if (pt_not (pt_val (pe_call GP hr (by rfl) mP kP bP .nil pass0 (pa_cons (pv 0) pa_nil)))) (pss_one (ps_raise rfl (takes_of rfl rfl rfl rfl) (pmk_own PySem.F.excBase_ValueError N.x N.g N.k (raises_own N.b N.t) rfl))) pss_nil), ?_⟩
    refine ⟨x, rfl, x, b, rfl, ask, fun H' sm => ⟨_, rfl, ?_⟩⟩
    cases b with
    | true => exact iteF (q1 rfl H' sm)
    | false => exact iteT (q2 rfl H' sm)
end
end Dt
namespace Dt
open PySem PySem.Spec PyProof.Rows L2 L2X
open SX (S)
theorem pss_never {X : Cx} {st : List Stmt} : PSs X st (fun _ _ _ => False) := ⟨fun _ _ _ _ _ _ h => h.elim⟩
theorem pg_never {X : Cx} {tg : Expr} : PG X tg (fun _ _ _ _ => False) := ⟨fun _ _ _ _ _ _ _ _ _ h => h.elim⟩
abbrev sSize : Stmt := topS 27
theorem scSize : FnScope ["picture"] ["picture"] (defScope sSize) := ⟨rfl, rfl, rfl, by decide +kernel, rfl, by decide +kernel, by decide +kernel⟩
/-- size of a picture, or of what is none -/
def spSize (K : PySem.W.Frag) (C : Addr) : Sp := fun vs H Q E => ∃ x, vs = [x] ∧ ((Asked K H x false ∧ ∀ H', Same H H' → E (.ref C) none H') ∨
  ∃ a xs, x = .ref a ∧ SqT K H a xs ∧ (∀ y ∈ xs, Kn K H y) ∧ picOk xs = true ∧ ∀ p H', Same H H' → H p = none → H' p = some (.tup [.int (xs.length : Int), .int (lenV (xs.headD .non))]) → Q (.ref p) H')
theorem Asked.same {K : PySem.W.Frag} {H H' : Hp} {x : V} {b : Bool} (h : Asked K H x b) (s : Same H H') : Asked K H' x b := by
  rcases h with ⟨T, t, ok, ne, e⟩ | ⟨a, xs, e, h1, h2, e2⟩
  · refine .inl ⟨T, ?_, ok, ne, e⟩
    cases t with
    | non => exact .non
    | bl b => exact .bl b
    | int i => exact .int i
    | str x => exact .str x
    | byt b => exact .byt b
    | lst h => exact .lst (s.seq h)
    | tup h => exact .tup (sameT s h)
    | dK h => exact .dK (s _ _ h)
  · exact .inr ⟨a, xs, e, sameT s h1, fun l y hy => (h2 l y hy).same s, e2⟩
section
variable {P : Program} {w : World} {K : PySem.W.Frag} {mg : Str → Option Value} {base : Heap} {C : Addr}
/-- want_picture, and whoever calls it first -/
structure GW (P : Program) (w : World) (K : PySem.W.Frag) (mg : Str → Option Value) (base : Heap) (C : Addr) (k : Nat) : Prop where
  ex : ∃ f fd, FnOk P w K mg base (L2.CX P w) k f fd ["thing"] (spWant K C) ∧ mg "want_picture" = some (.ref f) ∧ PySem.W.keepIn K (.ref f) = true ∧ Binds K fd ["thing"] []
structure GS (P : Program) (w : World) (K : PySem.W.Frag) (mg : Str → Option Value) (base : Heap) (C : Addr) (k : Nat) : Prop where
  ex : ∃ f fd, FnOk P w K mg base (L2.CX P w) k f fd ["picture"] (spSize K C) ∧ mg "size" = some (.ref f) ∧ PySem.W.keepIn K (.ref f) = true ∧ Binds K fd ["picture"] []
theorem ok_size {f : Addr} {fd : FuncData} {k : Nat} (F : Fun K "size" "size" sSize f fd) (X : Tx mg) (G : GW P w K mg base C (k + 1)) : FnOk P w K mg base (L2.CX P w) (k + 2) f fd ["picture"] (spSize K C) := by
  obtain ⟨fW, fdW, GW, mW, kW, bW⟩ := G.ex
  refine F.okX scSize (fun vs H Q E h => ?_) (fun cdv A outer s H vs Q E hr h => ?_)
  · obtain ⟨x, rfl, _⟩ := h
    rfl
  · obtain ⟨x, rfl, h⟩ := h
    refine ⟨_, pss_cons (ps_expr (pe_callS GW hr (by rfl) mW kW bW (fun σ => passAt (takes_of rfl rfl rfl rfl) σ) (pa_cons (pv 0) pa_nil)))
      (pss_one (ps_ret (pe_tup (pa_cons (pe_callB call_len_seq (by rfl) X.len PySem.boot_len (pa_cons (pv 0) pa_nil)) (pa_cons (pe_callB call_len_str (by rfl) X.len PySem.boot_len (pa_cons (pe_ix (r := rIxT K) ix_tup (pv 0) pe_int (fun _ _ => rfl)) pa_nil)) pa_nil))))), ?_⟩
    rcases h with ⟨ask, q⟩ | ⟨a, xs, rfl, hx, kn, ok, q⟩
    · exact ⟨x, rfl, x, false, rfl, ask, (fun e => nomatch e), fun _ H' sm => q H' sm⟩
    · refine ⟨.ref a, rfl, .ref a, true, rfl, .inr ⟨a, xs, rfl, hx, fun _ => kn, ok.symm⟩, fun _ H' sm => ?_, fun e => nomatch e⟩
      have hx' := sameT sm hx
      unfold picOk at ok
      rw [Bool.and_eq_true, Bool.and_eq_true, Bool.and_eq_true] at ok
      obtain ⟨⟨⟨o1, o2⟩, o3⟩, o4⟩ := ok
      cases xs with
      | nil => exact absurd (of_decide_eq_true o1) (by decide)
      | cons x0 r =>
        have hk := List.all_eq_true.mp o3 x0 List.mem_cons_self
        cases x0 with
        | str z =>
          have hz := (kn _ List.mem_cons_self).2 z rfl
          refine ⟨.ref a, rfl, a, _, rfl, .inr hx', .ref a, rfl, a, _, 0, .str z, rfl, rfl, hx', atI_nat (j := 0) rfl, z, rfl, hz, by show 2 ≤ sizeLine; decide, fun p hp => ?_⟩
          exact q p _ (sm.trans (same_upd hp)) (sm.free hp) upd_same
        | _ => cases hk
end
theorem upd_at2 {H : Hp} {p : Addr} {o : HO} : (upd H p o) p = some o := upd_same
theorem kn_str2 {K : PySem.W.Frag} {H : Hp} {z : Str} (h : z.length ≤ sizeLine) : Kn K H (.str z) := ⟨⟨"str", .str z, rfl⟩, fun y e => by cases e; exact h⟩
theorem kn_rows {K : PySem.W.Frag} {H : Hp} {high wide : Nat} {rs : List (List Nat)} (h : PicR high wide rs) : ∀ y ∈ rs.map rv, Kn K H y := by
  intro y hy
  obtain ⟨x, hx, rfl⟩ := List.mem_map.mp hy
  refine kn_str2 ?_
  show x.length ≤ sizeLine
  have := (h.row x hx).len
  have := h.w1
  exact Nat.le_of_lt (small1000 (by omega))
theorem askPic {K : PySem.W.Frag} {H : Hp} {high wide : Nat} {rs : List (List Nat)} {a : Addr} (h : PicR high wide rs) (e : H a = some (.tup (rs.map rv))) : Asked K H (.ref a) true :=
  .inr ⟨a, _, rfl, SqT.of e, fun _ => kn_rows h, (picOk_pic h).symm⟩
theorem picSize {high wide : Nat} {rs : List (List Nat)} (h : PicR high wide rs) : (((rs.map rv).length : Nat) : Int) = (high : Int) ∧ lenV ((rs.map rv).headD .non) = (wide : Int) := by
  refine ⟨by rw [List.length_map, h.len], ?_⟩
  cases rs with
  | nil =>
    have h1 := h.len
    have h2 := h.h0
    simp at h1
    omega
  | cons l r =>
    have e := (h.row l List.mem_cons_self).len
    show lenV (rv l) = _
    unfold rv
    rw [lenV_S, e]
end Dt
/-! zip of two and enumerate, over any of a list, a tuple, a text -/
namespace L2X
open PySem PySem.Spec PyProof.Rows L2
inductive Src
  | lst (a : Addr)
  | tup (a : Addr)
  | txt (z : Str)
def chars (z : Str) : List V := z.cps.toList.map fun c => V.str ⟨#[c]⟩
/-- what stands in it -/
def Src.has (K : PySem.W.Frag) (H : Hp) : Src → List V → Prop
  | .lst a, xs => SqL K H a xs
  | .tup a, xs => SqT K H a xs
  | .txt z, xs => xs = chars z
def Src.val : Src → V
  | .lst a => .ref a
  | .tup a => .ref a
  | .txt z => .str z
/-- its iterator at its i-th item -/
def Src.it (it : Addr) (i : Nat) (h : Heap) : Src → Prop
  | .lst a => h.IsListIter it a i
  | .tup a => h.IsTupleIter it a i
  | .txt z => ∃ t, h.IsStrIter it (strIterType z) z t i
def Src.off (c : Addr) : Src → Prop
  | .lst a => a ≠ c
  | .tup a => a ≠ c
  | .txt _ => True
theorem Src.it_obj {S : Src} {it : Addr} {i : Nat} {h : Heap} (e : S.it it i h) : ∃ o, h.get? it = some o ∧ ∀ v, o.data ≠ .cell v := by
  cases S with
  | lst a =>
    obtain ⟨o, e1, _, d⟩ := e
    exact ⟨o, e1, fun v q => by rw [d] at q; cases q⟩
  | tup a =>
    obtain ⟨o, e1, _, d⟩ := e
    exact ⟨o, e1, fun v q => by rw [d] at q; cases q⟩
  | txt z =>
    obtain ⟨t, o, e1, _, d⟩ := e
    exact ⟨o, e1, fun v q => by rw [d] at q; cases q⟩
theorem Src.it_at {S : Src} {it : Addr} {i : Nat} {h h' : Heap} (e : S.it it i h) (k : ∀ o, h.get? it = some o → h'.get? it = some o) : S.it it i h' := by
  cases S with
  | lst a => exact Heap.IsListIter.at e k
  | tup a => exact Heap.IsTupleIter.at e k
  | txt z =>
    obtain ⟨t, o, e1, e2, d⟩ := e
    exact ⟨t, o, k _ e1, e2, d⟩
section
variable {X : Cx} {pins : List (Addr × Obj)} {σ : L2.St} {H : Hp} {s : Shared}
theorem Src.inj {S : Src} {xs ys : List V} (I : Inv X pins σ H s) (h : S.has X.K H xs) (h' : S.has X.K H ys) : xs = ys := by
  cases S with
  | lst a => exact I.list_inj h h'
  | tup a => exact I.tuple_inj h h'
  | txt z => exact Eq.trans h (Eq.symm h')
/-- what its iterator draws, now -/
theorem Src.draws {S : Src} {xs : List V} {it : Addr} {i : Nat} {A : Around} (I : Inv X pins σ H s) (hh : A.handled = none) (h : S.has X.K H xs) (st : S.it it i s.heap) (off : S.off it) :
    ∃ (fp : List Addr) (P : Nat → Value → Prop) (St : Nat → Heap → Prop), Draws X.prog X.w A it fp xs.length P St ∧ St i s.heap ∧ it ∈ fp ∧ (∀ c, c ≠ it → S.off c → c ∉ fp) ∧ (∀ j v, P j v → ∃ x, xs[j]? = some x ∧ RelV x v) ∧ (∀ j h, St j h → S.it it j h) := by
  cases S with
  | lst a =>
    obtain ⟨its, rv, p, _⟩ := I.list h
    have el : its.toArray.size = xs.length := by rw [rv.length]; simp
    rw [← el]
    refine ⟨[it, a], _, _, Draws.list hh it a off its.toArray, ⟨st, p.isList⟩, by simp, fun c hc ho hm => ?_, fun j v hv => ?_, fun j h e => e.1⟩
    · have e' : c = it ∨ c = a := by simpa using hm
      rcases e' with e' | e'
      · exact hc e'
      · exact ho e'.symm
    · have hv' : its[j]? = some v := by simpa using hv
      have hj : j < xs.length := by
        rw [← el]
        have := (List.getElem?_eq_some_iff.mp hv').1
        simpa using this
      obtain ⟨u, hu, ru⟩ := rv.get (List.getElem?_eq_getElem hj)
      rw [hv'] at hu
      cases hu
      exact ⟨_, List.getElem?_eq_getElem hj, ru⟩
  | tup a =>
    obtain ⟨its, rv, p, _⟩ := I.tuple h
    have el : its.toArray.size = xs.length := by rw [rv.length]; simp
    rw [← el]
    refine ⟨[it, a], _, _, Draws.tuple hh it a off its.toArray, ⟨st, p⟩, by simp, fun c hc ho hm => ?_, fun j v hv => ?_, fun j h e => e.1⟩
    · have e' : c = it ∨ c = a := by simpa using hm
      rcases e' with e' | e'
      · exact hc e'
      · exact ho e'.symm
    · have hv' : its[j]? = some v := by simpa using hv
      have hj : j < xs.length := by
        rw [← el]
        have := (List.getElem?_eq_some_iff.mp hv').1
        simpa using this
      obtain ⟨u, hu, ru⟩ := rv.get (List.getElem?_eq_getElem hj)
      rw [hv'] at hu
      cases hu
      exact ⟨_, List.getElem?_eq_getElem hj, ru⟩
  | txt z =>
    obtain ⟨t, st⟩ := st
    have hx : xs = chars z := h
    have el : z.cps.size = xs.length := by rw [hx]; simp [chars]
    rw [← el]
    refine ⟨[it], _, _, Draws.text hh it z t, st, by simp, fun c hc _ hm => hc (by simpa using hm), fun j v hv => ?_, fun j h e => ⟨t, e⟩⟩
    obtain ⟨c, u, e1, rfl⟩ := hv
    refine ⟨.str ⟨#[c]⟩, ?_, _, rfl⟩
    rw [hx]
    unfold chars
    rw [List.getElem?_map, Array.getElem?_toList, e1]
    rfl
/-- two things at each turn, in new pairs -/
def ItzG (K : PySem.W.Frag) (A B : Src) : It :=
  ⟨fun i H => ∃ (xs ys : List V) (x y : V), A.has K H xs ∧ B.has K H ys ∧ xs[i]? = some x ∧ ys[i]? = some y,
    fun i H v H' => ∃ T x y, v = .ref T ∧ H T = none ∧ H' = upd H T (.tup [x, y]) ∧ (∀ xs, A.has K H xs → xs[i]? = some x) ∧ ∀ ys, B.has K H ys → ys[i]? = some y,
    fun i H => ∃ xs ys : List V, A.has K H xs ∧ B.has K H ys ∧ (xs.length = i ∧ i ≤ ys.length ∨ ys.length = i ∧ i ≤ xs.length)⟩
structure Apart5 (A B : Src) (z TI TO i1 i2 : Addr) : Prop where
  TIz : TI ≠ z
  TOz : TO ≠ z
  i1z : i1 ≠ z
  i2z : i2 ≠ z
  TITO : TI ≠ TO
  TIi1 : TI ≠ i1
  TIi2 : TI ≠ i2
  TOi1 : TO ≠ i1
  TOi2 : TO ≠ i2
  i12 : i1 ≠ i2
  az : A.off z
  aT : A.off TO
  a1 : A.off i1
  a2 : A.off i2
  bz : B.off z
  bT : B.off TO
  b1 : B.off i1
  b2 : B.off i2
theorem turn_zipG {P : Program} {w : World} {K : PySem.W.Frag} {elts : List Expr} {kk : Nat} {tpos : Pos} {A B : Src} {z TI TO i1 i2 : Addr} (D : Apart5 A B z TI TO i1 i2) :
    Turn P w K (.Tuple elts kk tpos) (ItzG K A B) [z, TI, TO, i1, i2] z (fun i h => IsZip h z TI TO .none ∧ IsTupOf2 h TI (.ref i1) (.ref i2) ∧ (∃ x y, IsTupOf2 h TO x y) ∧ A.it i1 i h ∧ B.it i2 i h) where
  mem := by simp
  obj := fun i h st c hc => by
    obtain ⟨hz, hTI, ⟨x, y, hTO⟩, h1, h2⟩ := st
    have e' : c = z ∨ c = TI ∨ c = TO ∨ c = i1 ∨ c = i2 := by simpa using hc
    rcases e' with q | q | q | q | q
    · rw [q]; exact ⟨_, hz, fun v q => nomatch q⟩
    · rw [q]; exact ⟨_, hTI, fun v q => nomatch q⟩
    · rw [q]; exact ⟨_, hTO, fun v q => nomatch q⟩
    · rw [q]; exact Src.it_obj h1
    · rw [q]; exact Src.it_obj h2
  keep := fun i h h' st k => by
    obtain ⟨hz, hTI, ⟨x, y, hTO⟩, h1, h2⟩ := st
    exact ⟨k z (by simp) _ hz, k TI (by simp) _ hTI, ⟨x, y, k TO (by simp) _ hTO⟩, Src.it_at h1 fun o q => k i1 (by simp) o q, Src.it_at h2 fun o q => k i2 (by simp) o q⟩
  item := by
    intro X hP hw hK hc i pins s σ H E I hf st hg
    subst hP hw hK
    obtain ⟨hz, hTI, ⟨x0, y0, hTO⟩, h1, h2⟩ := st
    obtain ⟨xs, ys, x, y, hqx, hqy, hx, hy⟩ := hg
    obtain ⟨f1, P1, S1, D1, s1, m1, o1, p1, t1⟩ := Src.draws (A := X.A.in1) I (I.ok.hd hc) hqx h1 D.a1
    obtain ⟨f2, P2, S2, D2, s2, m2, o2, p2, t2⟩ := Src.draws (A := X.A.in1) I (I.ok.hd hc) hqy h2 D.b2
    have sep : ZipSep2 z TI TO i1 i2 f1 f2 := ⟨D.TIz, D.TOz, D.TITO, D.TIi1, m1, o1 _ D.i1z.symm D.az, o1 _ D.TOi1 D.aT, D.TIi2, m2, o2 _ D.i2z.symm D.bz, o2 _ D.TOi2 D.bT, o2 _ D.i12 D.b1, o1 _ D.i12.symm D.a2⟩
    have hzl : z < s.heap.objs.size := Heap.lt_size hz
    refine wpAny_pyNext_zipD2_item sep D1 D2 hz hTI hTO s1 s2 (List.getElem?_eq_some_iff.mp hx).1 (List.getElem?_eq_some_iff.mp hy).1 fun u u2 h' tk q1 q2 z' TO' h1' h2' hT hsz hk => ?_
    obtain ⟨x', ex, ru⟩ := p1 _ _ q1
    rw [hx] at ex
    cases ex
    obtain ⟨y', ey, ru2⟩ := p2 _ _ q2
    rw [hy] at ey
    cases ey
    refine ⟨_, rfl, wpAny_letOwnedTupleGo_zip (s := { s with heap := h', toks := tk }) z' fun h'' z'' sb => ?_⟩
    have hT2 : h''.get? s.heap.objs.size = some { cls := .type "tuple", data := .seq #[u, u2] } := (sb.2 _ (Nat.ne_of_gt hzl)).trans hT
    have new : ObjOk X.prog X.w (upd H s.heap.objs.size (.tup [x, y])) h'' s.heap.objs.size (.tup [x, y]) :=
      ⟨by show 2 ≤ sizeLine; decide, [u, u2], .cons ru (.cons ru2 .nil), ⟨_, hT2, rfl, _, rfl⟩⟩
    have I1 : Inv X pins σ (upd H s.heap.objs.size (.tup [x, y])) { s with heap := h'', toks := tk } :=
      I.turnedNew (t' := tk) (ch := [z, TI, TO, i1, i2]) (fun c o hb q => (sb.2 c (fun q' => hb (by simp [q']))).trans (hk c o (fun q' => hb (by simp [q'])) (fun q' => hb (by simp [q'])) (fun q' => hb (by simp [q'])) (fun q' => hb (by simp [q'])) q)) hf (Nat.le_refl _) new
    refine ⟨.ref s.heap.objs.size, _, I1, rfl, ⟨_, x, y, rfl, I.hok.fresh (Nat.le_refl _), rfl, fun l hl => by rw [Src.inj I hl hqx]; exact hx, fun l hl => by rw [Src.inj I hl hqy]; exact hy⟩, ⟨z'', ?_, ⟨u, u2, ?_⟩, ?_, ?_⟩, fun c hcm => ?_⟩
    · exact (sb.2 _ D.TIz).trans (hk _ _ D.TIz D.TITO D.TIi1 D.TIi2 hTI)
    · exact (sb.2 _ D.TOz).trans TO'
    · exact Src.it_at (t1 _ _ h1') fun o q => (sb.2 _ D.i1z).trans q
    · exact Src.it_at (t2 _ _ h2') fun o q => (sb.2 _ D.i2z).trans q
    · have hlt : c < s.heap.objs.size := by
        have e' : c = z ∨ c = TI ∨ c = TO ∨ c = i1 ∨ c = i2 := by simpa using hcm
        rcases e' with q | q | q | q | q
        · rw [q]; exact hzl
        · rw [q]; exact Heap.lt_size hTI
        · rw [q]; exact Heap.lt_size hTO
        · rw [q]; obtain ⟨_, e1, _⟩ := Src.it_obj h1; exact Heap.lt_size e1
        · rw [q]; obtain ⟨_, e2, _⟩ := Src.it_obj h2; exact Heap.lt_size e2
      rw [upd_ne (Nat.ne_of_lt hlt)]
      exact (hf c hcm).1
  done := by
    intro X hP hw hK hc i pins s σ H E I hf st hg
    subst hP hw hK
    obtain ⟨hz, hTI, ⟨x0, y0, hTO⟩, h1, h2⟩ := st
    obtain ⟨xs, ys, hqx, hqy, hend⟩ := hg
    obtain ⟨f1, P1, S1, D1, s1, m1, o1, p1, t1⟩ := Src.draws (A := X.A.in1) I (I.ok.hd hc) hqx h1 D.a1
    obtain ⟨f2, P2, S2, D2, s2, m2, o2, p2, t2⟩ := Src.draws (A := X.A.in1) I (I.ok.hd hc) hqy h2 D.b2
    have sep : ZipSep2 z TI TO i1 i2 f1 f2 := ⟨D.TIz, D.TOz, D.TITO, D.TIi1, m1, o1 _ D.i1z.symm D.az, o1 _ D.TOi1 D.aT, D.TIi2, m2, o2 _ D.i2z.symm D.bz, o2 _ D.TOi2 D.bT, o2 _ D.i12 D.b1, o1 _ D.i12.symm D.a2⟩
    exact wpAny_pyNext_zipD2_end sep D1 D2 hz hTI hTO s1 s2 (by omega) (by omega) (by omega) fun h' tk hk => ⟨rfl, I.turnedL (t' := tk) (ch := [z, TI, TO, i1, i2]) (fun c o hb q =>
      hk c o (fun q' => hb (by simp [q'])) (fun q' => hb (by simp [q'])) (fun q' => hb (by simp [q'])) (fun q' => hb (by simp [q'])) q) hf⟩
  self := fun A i s Q E st h => wpAny_pyIter_zip st.1 h
/-- how a source begins -/
theorem Src.begins {S : Src} {xs : List V} {u : Value} (I : Inv X pins σ H s) (h : S.has X.K H xs) (r : RelV S.val u) : ∃ (o : Obj) (Hh : Heap → Prop), Begins u o Hh ∧ Hh s.heap ∧ (∀ (h' : Heap) (it : Addr), h'.get? it = some o → S.it it 0 h') ∧ ∀ c, s.heap.objs.size ≤ c → S.off c := by
  cases S with
  | lst a =>
    cases r
    obtain ⟨its, rv, p, _⟩ := I.list h
    exact ⟨_, _, begins_list a its.toArray, p.isList, fun h' it e => ⟨_, e, rfl, rfl⟩, fun c hc => Nat.ne_of_lt (Nat.lt_of_lt_of_le p.lt hc)⟩
  | tup a =>
    cases r
    obtain ⟨its, rv, p, _⟩ := I.tuple h
    obtain ⟨o, e, _⟩ := id p
    exact ⟨_, _, begins_tuple a its.toArray, p, fun h' it e => ⟨_, e, rfl, rfl⟩, fun c hc => Nat.ne_of_lt (Nat.lt_of_lt_of_le (Heap.lt_size e) hc)⟩
  | txt z =>
    obtain ⟨t, rfl⟩ := r
    exact ⟨_, _, begins_text z t, trivial, fun h' it e => ⟨t, _, e, rfl, rfl⟩, fun _ _ => trivial⟩
theorem ap_ne (N a b : Nat) (h : a ≠ b) : N + a ≠ N + b := by omega
theorem apart5_new {A B : Src} {N : Nat} (f1 : ∀ c, N ≤ c → A.off c) (f2 : ∀ c, N ≤ c → B.off c) : Apart5 A B (N + 4) (N + 2) (N + 3) N (N + 1) :=
  ⟨ap_ne N 2 4 (by decide), ap_ne N 3 4 (by decide), ap_ne N 0 4 (by decide), ap_ne N 1 4 (by decide), ap_ne N 2 3 (by decide), ap_ne N 2 0 (by decide), ap_ne N 2 1 (by decide), ap_ne N 3 0 (by decide), ap_ne N 3 1 (by decide), ap_ne N 0 1 (by decide),
    f1 _ (Nat.le_add_right _ _), f1 _ (Nat.le_add_right _ _), f1 _ (Nat.le_refl _), f1 _ (Nat.le_add_right _ _), f2 _ (Nat.le_add_right _ _), f2 _ (Nat.le_add_right _ _), f2 _ (Nat.le_refl _), f2 _ (Nat.le_add_right _ _)⟩
def iZipG (K : PySem.W.Frag) (ta : TA) : TI := fun σ H R => ta σ H fun vs H1 => ∃ (A B : Src) (xs ys : List V), vs = [A.val, B.val] ∧ A.has K H1 xs ∧ B.has K H1 ys ∧ R (ItzG K A B) H1
theorem pi_zipG {X : Cx} {e e2 : Expr} {ta : TA} {p pos tpos : Pos} {elts : List Expr} {kk : Nat} (hg : Gl X "zip") (hm : X.mg "zip" = none) (ha : PA X [e, e2] ta)
    (hs : starEach [e, e2] X.env = (false, eval e X.env) :: starEach [e2] X.env := by rfl) (hpl : (backTo pos (starEach [e2] X.env)).any (·.1) = false := by rfl) :
    PI X (.Tuple elts kk tpos) (.Call (.Name "zip" p) [e, e2] [] pos) (iZipG X.K ta) := by
  refine ⟨fun pins s σ H R I h => ?_⟩
  refine Call_ (ld_blt I hg hm PyProof.Rows.boot_zip (PyProof.Rows.callWith_type1 (thn (ha.run pos pins s σ H _ I h) fun us s1 ⟨vs, H1, I1, r1, q1⟩ => ?_) hs hpl))
  obtain ⟨A, B, xs, ys, ex, ha1, hb1, q⟩ := q1
  subst ex
  cases r1 with
  | cons r rr =>
    cases rr with
    | cons r' rr =>
      cases rr
      obtain ⟨o1, G1, B1, g1, n1, f1⟩ := Src.begins I1 ha1 r
      obtain ⟨o2, G2, B2, g2, n2, f2⟩ := Src.begins I1 hb1 r'
      refine zip_begins2 B1 B2 g1 g2 fun h' hz hTI hTO e1 e2 hsz hk => wpAny_pyIter_zip hz ?_
      have I2 : Inv X pins σ H1 { s1 with heap := h' } := I1.kept (t' := s1.toks) hk
      have ap : Apart5 A B (s1.heap.objs.size + 4) (s1.heap.objs.size + 2) (s1.heap.objs.size + 3) s1.heap.objs.size (s1.heap.objs.size + 1) :=
        apart5_new f1 f2
      refine ⟨s1.heap.objs.size + 4, [s1.heap.objs.size + 4, s1.heap.objs.size + 2, s1.heap.objs.size + 3, s1.heap.objs.size, s1.heap.objs.size + 1], _, _, H1, rfl, I2, turn_zipG ap, ⟨hz, hTI, ⟨_, _, hTO⟩, n1 _ _ e1, n2 _ _ e2⟩, fun c hcm => ?_, q⟩
      have e' : c = s1.heap.objs.size + 4 ∨ c = s1.heap.objs.size + 2 ∨ c = s1.heap.objs.size + 3 ∨ c = s1.heap.objs.size ∨ c = s1.heap.objs.size + 1 := by simpa using hcm
      have hle : s1.heap.objs.size ≤ c := by
        rcases e' with z | z | z | z | z
        · rw [z]; exact Nat.le_add_right _ _
        · rw [z]; exact Nat.le_add_right _ _
        · rw [z]; exact Nat.le_add_right _ _
        · rw [z]; exact Nat.le_refl _
        · rw [z]; exact Nat.le_add_right _ _
      exact I1.fpOk hle (I1.hok.fresh hle)
/-! ### enumerate -/
def IteG (K : PySem.W.Frag) (A : Src) : It :=
  ⟨fun i H => ∃ (xs : List V) (x : V), A.has K H xs ∧ xs[i]? = some x, fun i H v H' => ∃ T x, v = .ref T ∧ H T = none ∧ H' = upd H T (.tup [.int (i : Nat), x]) ∧ ∀ xs, A.has K H xs → xs[i]? = some x, fun i H => ∃ xs : List V, A.has K H xs ∧ xs.length = i⟩
theorem turn_enumG {P : Program} {w : World} {K : PySem.W.Frag} {elts : List Expr} {kk : Nat} {tpos : Pos} {A : Src} {e it : Addr} (hne : e ≠ it) (oe : A.off e) (oi : A.off it) :
    Turn P w K (.Tuple elts kk tpos) (IteG K A) [e, it] e (fun i h => (∃ old, IsEnum h e it ((i : Nat) : Int) old) ∧ A.it it i h) where
  mem := by simp
  obj := fun i h st b hb => by
    obtain ⟨⟨old, he⟩, hi⟩ := st
    have e' : b = e ∨ b = it := by simpa using hb
    rcases e' with z | z
    · rw [z]; exact ⟨_, he, fun v q => nomatch q⟩
    · rw [z]; exact Src.it_obj hi
  keep := fun i h h' st k => let ⟨⟨old, he⟩, hi⟩ := st; ⟨⟨old, k e (by simp) _ he⟩, Src.it_at hi fun o q => k it (by simp) o q⟩
  item := by
    intro X hP hw hK hc i pins s σ H E I hf st hg
    subst hP hw hK
    obtain ⟨⟨old, he⟩, hit⟩ := st
    obtain ⟨xs, x, hq, hx⟩ := hg
    obtain ⟨f1, P1, S1, D1, s1, m1, o1, p1, t1⟩ := Src.draws (A := X.A.in1) I (I.ok.hd hc) hq hit oi
    have hel : e < s.heap.objs.size := Heap.lt_size he
    have hil : it < s.heap.objs.size := by obtain ⟨_, q, _⟩ := Src.it_obj hit; exact Heap.lt_size q
    refine wpAny_pyNext_enum_itemD D1 he s1 (List.getElem?_eq_some_iff.mp hx).1 hne (o1 _ hne oe) fun u h' tk q1 ho hit' hT hsz hk => ?_
    obtain ⟨x', ex, ru⟩ := p1 _ _ q1
    rw [hx] at ex
    cases ex
    refine ⟨_, rfl, wpAny_letOwnedTupleGo_enum (s := { s with heap := h', toks := tk + 1 }) ho fun h'' he' sb => ?_⟩
    have hT2 : h''.get? s.heap.objs.size = some { cls := .type "tuple", data := .seq #[.int i tk, u] } := (sb.2 _ (Nat.ne_of_gt hel)).trans hT
    have new : ObjOk X.prog X.w (upd H s.heap.objs.size (.tup [.int (i : Nat), x])) h'' s.heap.objs.size (.tup [.int (i : Nat), x]) :=
      ⟨by show 2 ≤ sizeLine; decide, [.int i tk, u], .cons ⟨_, rfl⟩ (.cons ru .nil), ⟨_, hT2, rfl, _, rfl⟩⟩
    have I1 : Inv X pins σ (upd H s.heap.objs.size (.tup [.int (i : Nat), x])) { s with heap := h'', toks := tk + 1 } :=
      I.turnedNew (t' := tk + 1) (ch := [e, it]) (fun b ob hb q => (sb.2 b (fun z => hb (by simp [z]))).trans (hk b ob (fun z => hb (by simp [z])) (fun z => hb (by simp [z])) q)) hf (Nat.le_refl _) new
    refine ⟨.ref s.heap.objs.size, _, I1, rfl, ⟨_, x, rfl, I.hok.fresh (Nat.le_refl _), rfl, fun ys hy => by rw [Src.inj I hy hq]; exact hx⟩, ⟨⟨u, ?_⟩, Src.it_at (t1 _ _ hit') fun o q => (sb.2 it (Ne.symm hne)).trans q⟩, fun b hb => ?_⟩
    · have e1 : ((i + 1 : Nat) : Int) = (i : Int) + 1 := by omega
      rw [e1]; exact he'
    · have hb' : b < s.heap.objs.size := by
        have e' : b = e ∨ b = it := by simpa using hb
        rcases e' with z | z
        · rw [z]; exact hel
        · rw [z]; exact hil
      rw [upd_ne (Nat.ne_of_lt hb')]
      exact (hf b hb).1
  done := by
    intro X hP hw hK hc i pins s σ H E I hf st hg
    subst hP hw hK
    obtain ⟨⟨old, he⟩, hit⟩ := st
    obtain ⟨xs, hq, hx⟩ := hg
    subst hx
    obtain ⟨f1, P1, S1, D1, s1, m1, o1, p1, t1⟩ := Src.draws (A := X.A.in1) I (I.ok.hd hc) hq hit oi
    obtain ⟨f0, f1', f2, f3, f4, f5⟩ := hf it (by simp)
    exact wpAny_pyNext_enum_endD D1 he s1 fun h' eb => ⟨rfl, I.turned (t' := s.toks) (fun b o hb q => eb b o hb q) f0 f1' f3 f4 f5⟩
  self := fun A i s Q E st h => let ⟨⟨_, he⟩, _⟩ := st; wpAny_pyIter_enum he h
theorem meets_enumerate_new1B {v : Value} {o : Obj} {H : Heap → Prop} (B : Begins v o H) :
    Meets (Builtin.«enumerate.__new__» ⟨[.type "enumerate", v], []⟩) (fun _ R s => H s.heap ∧
      R (.ok (.ret (.ref (s.heap.push o).objs.size))) { s with heap := (s.heap.push o).push { cls := .type "enumerate", data := .fields #[.none, .bool false, .ref s.heap.objs.size, rawInt 0, .none, .none] } }) :=
  .of_wp fun prog w A R s h => by
    obtain ⟨hp, g, d, tk, os⟩ := s; obtain ⟨h1, h⟩ := h
    have hsub := sub_enumerate
    have q1 : ∀ {A' : Around} {E : Value → Shared → Prop} {Q : Value → Shared → Prop}, Q (.ref hp.objs.size) ⟨hp.push o, g, d, tk, os⟩ → wpAny (model prog w) A' (pyIter v) Q E ⟨hp, g, d, tk, os⟩ :=
      fun q => B.iter prog w _ _ ⟨hp, g, d, tk, os⟩ _ h1 q
    wp_walk
    refine wpAny_stack_any fun st => wpAny_pure ?_
    split
    · rename_i c _ _ _ _ _
      cases (c == Value.type "enumerate")
      · wp_walk using q1
        exact ⟨_, rfl, h⟩
      · wp_walk using q1
        exact ⟨_, rfl, h⟩
    · wp_walk using q1
      exact ⟨_, rfl, h⟩
theorem enum_begins1 {prog : Program} {w : World} {A : Around} {E : Value → Shared → Prop} {s : Shared} {v : Value} {o : Obj} {H : Heap → Prop} {Q : Value → Shared → Prop} (B : Begins v o H) (h1 : H s.heap)
    (h : ∀ h', IsEnum h' (s.heap.objs.size + 1) s.heap.objs.size 0 .none → h'.get? s.heap.objs.size = some o → h'.objs.size = s.heap.objs.size + 2 →
      (∀ b o, s.heap.get? b = some o → h'.get? b = some o) → Q (.ref (s.heap.objs.size + 1)) { s with heap := h' }) :
    wpAny (model prog w) A (call (.type "enumerate") [v]) Q E s := by
  refine callType_new F.called_enumerate (by decide) (F.typeCall_enumerate_1 _) (F.newCall_enumerate_1 _) (fun obj => F.args_object_init_2 obj _) F.entry_enumerate_new
    (meets_enumerate_new1B B) ⟨h1, ?_⟩
  have hz : (s.heap.push o).objs.size = s.heap.objs.size + 1 := Heap.size_push ..
  show _ ∧ _
  rw [hz]
  have he : IsEnum ((s.heap.push o).push { cls := .type "enumerate", data := .fields #[.none, .bool false, .ref s.heap.objs.size, rawInt 0, .none, .none] }) (s.heap.objs.size + 1) s.heap.objs.size 0 .none := by
    have := Heap.get?_push_size (s.heap.push o) (o := { cls := .type "enumerate", data := .fields #[.none, .bool false, .ref s.heap.objs.size, rawInt 0, .none, .none] }) rfl
    rw [hz] at this
    exact this
  exact ⟨⟨_, he, rfl⟩, h _ he (Heap.get?_push_of_some _ (Heap.get?_push_size _ B.free)) (by rw [Heap.size_push, hz]) fun b o x => Heap.get?_push_of_some _ (Heap.get?_push_of_some _ x)⟩
def iEnumG (K : PySem.W.Frag) (ta : TA) : TI := fun σ H R => ta σ H fun vs H1 => ∃ (A : Src) (xs : List V), vs = [A.val] ∧ A.has K H1 xs ∧ R (IteG K A) H1
theorem pi_enumG {X : Cx} {e : Expr} {ta : TA} {p pos tpos : Pos} {elts : List Expr} {kk : Nat} (hg : Gl X "enumerate") (hm : X.mg "enumerate" = none) (ha : PA X [e] ta) (hs : starEach [e] X.env = [(false, eval e X.env)] := by rfl) :
    PI X (.Tuple elts kk tpos) (.Call (.Name "enumerate" p) [e] [] pos) (iEnumG X.K ta) := by
  refine ⟨fun pins s σ H R I h => ?_⟩
  refine Call_ (ld_blt I hg hm boot_enumerate (PyProof.Rows.callWith_type1 (thn (ha.run pos pins s σ H _ I h) fun us s1 ⟨vs, H1, I1, r1, q1⟩ => ?_) hs rfl))
  obtain ⟨A, xs, ex, hq, q⟩ := q1
  subst ex
  cases r1 with
  | cons r rr =>
    cases rr
    obtain ⟨o1, G1, B1, g1, n1, f1⟩ := Src.begins I1 hq r
    refine enum_begins1 B1 g1 fun h' he hit hsz hk => wpAny_pyIter_enum he ?_
    have I2 : Inv X pins σ H1 { s1 with heap := h' } := I1.kept (t' := s1.toks) hk
    refine ⟨s1.heap.objs.size + 1, [s1.heap.objs.size + 1, s1.heap.objs.size], _, _, H1, rfl, I2, turn_enumG (Nat.succ_ne_self _) (f1 _ (Nat.le_add_right _ _)) (f1 _ (Nat.le_refl _)), ⟨⟨.none, he⟩, n1 _ _ hit⟩, fun b hb => ?_, q⟩
    have e' : b = s1.heap.objs.size + 1 ∨ b = s1.heap.objs.size := by simpa using hb
    have hle : s1.heap.objs.size ≤ b := by
      rcases e' with z | z
      · rw [z]; exact Nat.le_add_right _ _
      · rw [z]; exact Nat.le_refl _
    exact I1.fpOk hle (I1.hok.fresh hle)
end
end L2X
/-! comprehensions and loops over zip and enumerate of anything -/
namespace L2X
open PySem PySem.Spec PyProof.Rows L2
theorem lc_zipG {K : PySem.W.Frag} {A B : Src} {xs ys : List V} {g : TG} {tt : TT} {te : TE} {vs : List Nat} {σ : L2.St} {H1 : Hp} {D : Addr} {Qd : Hp → Prop} (hn : xs.length = ys.length) (Pv : Nat → Hp → Prop) (h0 : Pv 0 (upd H1 D (.lst []))) (hl : ∀ i H, i ≤ xs.length → Pv i H → A.has K H xs ∧ B.has K H ys)
    (hs : ∀ i x y H T, xs[i]? = some x → ys[i]? = some y → Pv i H → H T = none → g (.ref T) (wipe σ vs) (upd H T (.tup [x, y])) fun σ2 H2 => wipe σ2 vs = wipe σ vs ∧ tt σ2 H2 fun b H3 =>
      if b = true then te σ2 H3 fun z H4 => ∃ acc, H4 D = some (.lst acc) ∧ acc.length < sizeLine ∧ Pv (i + 1) (upd H4 D (.lst (acc ++ [z]))) else Pv (i + 1) H3) (hd : ∀ H, Pv xs.length H → Qd H) :
    ∃ W : Nat → Nat → Hp → Prop, (∃ m, W 0 m (upd H1 D (.lst []))) ∧ ∀ i m H, W i m H →
      ((ItzG K A B).stop i H ∧ Qd H) ∨ ((ItzG K A B).go i H ∧ ∃ Nx : Hp → Prop, (∀ H', Nx H' → ∃ m', m' < m ∧ W (i + 1) m' H') ∧ ∀ x H', (ItzG K A B).yld i H x H' → g x (wipe σ vs) H' fun σ2 H2 => wipe σ2 vs = wipe σ vs ∧ tt σ2 H2 fun b H3 =>
        if b = true then te σ2 H3 fun y H4 => ∃ acc, H4 D = some (.lst acc) ∧ acc.length < sizeLine ∧ Nx (upd H4 D (.lst (acc ++ [y]))) else Nx H3) := by
  refine ⟨fun i m H => m = xs.length - i ∧ i ≤ xs.length ∧ Pv i H, ⟨xs.length, by simp, Nat.zero_le _, h0⟩, ?_⟩
  rintro i m H ⟨rfl, hi, p⟩
  obtain ⟨qx, qy⟩ := hl i H hi p
  by_cases hlt : i < xs.length
  · have hlt2 : i < ys.length := by omega
    have ex : xs[i]? = some xs[i] := List.getElem?_eq_getElem hlt
    have ey : ys[i]? = some ys[i] := List.getElem?_eq_getElem hlt2
    refine .inr ⟨⟨xs, ys, _, _, qx, qy, ex, ey⟩, Pv (i + 1), fun H' p' => ⟨xs.length - (i + 1), by omega, rfl, hlt, p'⟩, fun x H' y => ?_⟩
    obtain ⟨T, u, v, rfl, nT, rfl, z1, z2⟩ := y
    exact hs i u v H T (z1 xs qx) (z2 ys qy) p nT
  · have e : i = xs.length := by omega
    subst e
    exact .inl ⟨⟨xs, ys, qx, qy, .inl ⟨rfl, by omega⟩⟩, hd H p⟩
theorem lc_enumG {K : PySem.W.Frag} {A : Src} {xs : List V} {g : TG} {tt : TT} {te : TE} {vs : List Nat} {σ : L2.St} {H1 : Hp} {D : Addr} {Qd : Hp → Prop} (Pv : Nat → Hp → Prop) (h0 : Pv 0 (upd H1 D (.lst []))) (hl : ∀ i H, i ≤ xs.length → Pv i H → A.has K H xs)
    (hs : ∀ i x H T, xs[i]? = some x → Pv i H → H T = none → g (.ref T) (wipe σ vs) (upd H T (.tup [.int (i : Nat), x])) fun σ2 H2 => wipe σ2 vs = wipe σ vs ∧ tt σ2 H2 fun b H3 =>
      if b = true then te σ2 H3 fun z H4 => ∃ acc, H4 D = some (.lst acc) ∧ acc.length < sizeLine ∧ Pv (i + 1) (upd H4 D (.lst (acc ++ [z]))) else Pv (i + 1) H3) (hd : ∀ H, Pv xs.length H → Qd H) :
    ∃ W : Nat → Nat → Hp → Prop, (∃ m, W 0 m (upd H1 D (.lst []))) ∧ ∀ i m H, W i m H →
      ((IteG K A).stop i H ∧ Qd H) ∨ ((IteG K A).go i H ∧ ∃ Nx : Hp → Prop, (∀ H', Nx H' → ∃ m', m' < m ∧ W (i + 1) m' H') ∧ ∀ x H', (IteG K A).yld i H x H' → g x (wipe σ vs) H' fun σ2 H2 => wipe σ2 vs = wipe σ vs ∧ tt σ2 H2 fun b H3 =>
        if b = true then te σ2 H3 fun y H4 => ∃ acc, H4 D = some (.lst acc) ∧ acc.length < sizeLine ∧ Nx (upd H4 D (.lst (acc ++ [y]))) else Nx H3) := by
  refine ⟨fun i m H => m = xs.length - i ∧ i ≤ xs.length ∧ Pv i H, ⟨xs.length, by simp, Nat.zero_le _, h0⟩, ?_⟩
  rintro i m H ⟨rfl, hi, p⟩
  have qx := hl i H hi p
  by_cases hlt : i < xs.length
  · have ex : xs[i]? = some xs[i] := List.getElem?_eq_getElem hlt
    refine .inr ⟨⟨xs, _, qx, ex⟩, Pv (i + 1), fun H' p' => ⟨xs.length - (i + 1), by omega, rfl, hlt, p'⟩, fun x H' y => ?_⟩
    obtain ⟨T, u, rfl, nT, rfl, z1⟩ := y
    exact hs i u H T (z1 xs qx) p nT
  · have e : i = xs.length := by omega
    subst e
    exact .inl ⟨⟨xs, qx, rfl⟩, hd H p⟩
end L2X
namespace L2X
open PySem PySem.Spec PyProof.Rows L2
theorem eqAt_ty {A : Around} {s : Shared} {a b : String} (ha : tyOk a = true) (hb : tyOk b = true) : SeqAt.EqAt A s (.type a) (.type b) (decide (a = b)) := fun prog w E Q h => by
  unfold eqBool
  refine wpAny_holding ?_
  by_cases e : a = b
  · subst e
    rw [decide_eq_true rfl] at h
    refine wpAny_ite_split (fun _ => ?_) (fun n => absurd (beq_self_eq_true _) n)
    exact wpAny_pure (M := model prog w) (E := E) h
  · rw [decide_eq_false e] at h
    refine wpAny_ite_split (fun q => ?_) (fun _ => ?_)
    · rw [ty_ne e] at q
      cases q
    · have z : wpAny (model prog w) A (compareOp .Eq (.type a) (.type b)) (fun v s' => v = .bool false ∧ s' = s) E s := TypeEq.eq_type_other (tyOk_is ha) (tyOk_is hb) (ty_ne e) ⟨rfl, rfl⟩
      exact wpAny_bind (wpAny_mono z (fun v s' q => by
        obtain ⟨rfl, rfl⟩ := q
        exact wpAny_truthy_bool h) fun _ _ x => x)
def tyIs (a : String) : Value → Bool
  | .type T => decide (T = a)
  | _ => false
def rInTy (K : PySem.W.Frag) : R2 := fun x y H Q => ∃ (a : String) (p : Addr) (ts : List String), x = .ty a ∧ y = .ref p ∧ SqT K H p (ts.map V.ty) ∧ tyOk a = true ∧ ts.all tyOk = true ∧ Q (.bl (ts.any fun t => decide (t = a))) H
theorem vals_tys : ∀ {ts : List String} {us : List Value}, Vals (ts.map V.ty) us → us = ts.map Value.type
  | [], _, .nil => rfl
  | t :: ts, _, .cons r rr => by
    cases (show _ = Value.type t from r)
    rw [vals_tys rr]
    rfl
theorem op_in_ty {X : Cx} : OpR X (compareOp .In) (rInTy X.K) := by
  intro pins s σ H x y v u Q I rx ry h
  obtain ⟨a, p, ts, rfl, rfl, hq, ha, hts, q⟩ := h
  cases ry
  cases (show v = Value.type a from rx)
  obtain ⟨its, r, pl, hz⟩ := I.tuple hq
  have e := vals_tys r
  subst e
  refine SeqAt.in_tupleAt (tyIs a) pl (fun w hw => ?_) ⟨.bl _, H, I, rfl, ?_⟩
  · obtain ⟨t, ht, rfl⟩ : ∃ t, t ∈ ts ∧ w = Value.type t := by
      obtain ⟨t, ht, e⟩ := List.mem_map.mp (show w ∈ ts.map Value.type by simpa using hw)
      exact ⟨t, ht, e.symm⟩
    exact eqAt_ty (List.all_eq_true.mp hts t ht) ha
  · have e : (ts.map Value.type).toArray.any (tyIs a) = ts.any fun t => decide (t = a) := by
      simp [List.any_map]
      rfl
    rw [e]
    exact q
end L2X
namespace Dt
open PySem PySem.Spec PyProof.Rows L2 L2X
/-! ### kinds -/
def isInt : V → Bool
  | .int _ => true
  | _ => false
theorem isInt_ty {K : PySem.W.Frag} {H : Hp} {x : V} {T : String} (t : TyB K H x T) : decide (T = "int") = isInt x := by
  cases t <;> rfl
def betw : V → Int → Int → Bool
  | .int i, lo, hi => decide (lo ≤ i) && decide (i ≤ hi)
  | _, _, _ => false
theorem betw_int (i lo hi : Int) : betw (.int i) lo hi = (decide (lo ≤ i) && decide (i ≤ hi)) := rfl
theorem betw_no {x : V} {lo hi : Int} (h : isInt x = false) : betw x lo hi = false := by
  cases x with
  | int i => cases h
  | _ => rfl
/-- a thing of a known kind -/
def Kt (K : PySem.W.Frag) (H : Hp) (x : V) : Prop := ∃ T, TyB K H x T ∧ tyOk T = true
abbrev sIsNum : Stmt := topS 16
theorem scIsNum : FnScope ["thing"] ["thing"] (defScope sIsNum) := ⟨rfl, rfl, rfl, by decide +kernel, rfl, by decide +kernel, by decide +kernel⟩
def spIsNum (K : PySem.W.Frag) : Sp := fun vs H Q _ => ∃ x, vs = [x] ∧ Kt K H x ∧ Q (.bl (isInt x)) H
abbrev sBetw : Stmt := topS 17
theorem scBetw : FnScope ["thing", "least", "most"] ["thing", "least", "most"] (defScope sBetw) := ⟨rfl, rfl, rfl, by decide +kernel, rfl, by decide +kernel, by decide +kernel⟩
def spBetw (K : PySem.W.Frag) : Sp := fun vs H Q _ => ∃ x lo hi, vs = [x, .int lo, .int hi] ∧ Kt K H x ∧ Q (.bl (betw x lo hi)) H
abbrev sIsList : Stmt := topS 19
theorem scIsList : FnScope ["thing"] ["thing"] (defScope sIsList) := ⟨rfl, rfl, rfl, by decide +kernel, rfl, by decide +kernel, by decide +kernel⟩
def spIsList (K : PySem.W.Frag) : Sp := fun vs H Q _ => ∃ x T, vs = [x] ∧ TyB K H x T ∧ tyOk T = true ∧ ∀ H', Same H H' → Q (.bl (decide ("list" = T) || decide ("tuple" = T))) H'
section
variable {P : Program} {w : World} {K : PySem.W.Frag} {mg : Str → Option Value} {base : Heap}
theorem ok_isNum {f : Addr} {fd : FuncData} {k : Nat} (F : Fun K "is_number" "is_number" sIsNum f fd) (T : Tp mg) (X : Tx mg) : FnOk P w K mg base CX0 (k + 1) f fd ["thing"] (spIsNum K) := by
  refine F.ok scIsNum (fun vs H Q E h => ?_) (fun cdv A outer s H vs Q E hr h => ?_)
  · obtain ⟨x, rfl, _⟩ := h
    rfl
  · obtain ⟨x, rfl, ⟨Ty, ht, ok⟩, q⟩ := h
    refine ⟨_, pss_one (ps_ret (pe_cmpR op_eq_ty (pe_callTy call_type1 (by rfl) T.typ (by decide +kernel) (pa_cons (pv 0) pa_nil)) (pe_bltn (v := .ty "int") (u := .type "int") (by rfl) X.int (by decide +kernel) rfl) (nomark _))), ?_⟩
    refine ⟨x, rfl, x, Ty, rfl, ht, Ty, "int", rfl, rfl, ok, rfl, ?_⟩
    have e : id (decide (Ty = "int")) = isInt x := isInt_ty ht
    rw [e]
    exact q
theorem ok_betw {f fN : Addr} {fd fdN : FuncData} {k : Nat} (F : Fun K "is_between" "is_between" sBetw f fd) (GN : FnOk P w K mg base CX0 (k + 1) fN fdN ["thing"] (spIsNum K)) (mN : mg "is_number" = some (.ref fN)) (kN : PySem.W.keepIn K (.ref fN) = true) (bN : Binds K fdN ["thing"] []) : FnOk P w K mg base CX0 (k + 2) f fd ["thing", "least", "most"] (spBetw K) := by
  refine F.ok scBetw (fun vs H Q E h => ?_) (fun cdv A outer s H vs Q E hr h => ?_)
  · obtain ⟨x, lo, hi, rfl, _⟩ := h
    rfl
  · obtain ⟨x, lo, hi, rfl, kt, q⟩ := h
    refine ⟨_, pss_one (ps_ret (pe_and (pe_call GN hr (by rfl) mN kN bN .nil pass0 (pa_cons (pv 0) pa_nil)) (pe_one (pe_chain op_le op_le (pv 1) (pv 0) (pv 2))))), ?_⟩
    refine ⟨x, rfl, x, rfl, kt, _, rfl, ?_⟩
    cases x with
    | int i =>
      refine iteT ⟨.int lo, rfl, .int i, rfl, lo, i, rfl, rfl, _, rfl, ite2 (fun e => ?_) (fun e => ?_)⟩
      · refine ⟨.int hi, rfl, i, hi, rfl, rfl, ?_⟩
        rw [betw_int, e, Bool.true_and] at q
        exact q
      · rw [betw_int, Bool.eq_false_iff.mpr e, Bool.false_and] at q
        exact q
    | _ => exact iteF q
theorem ok_isList {f : Addr} {fd : FuncData} {k : Nat} (F : Fun K "is_list" "is_list" sIsList f fd) (T : Tp mg) (X : Tx mg) : FnOk P w K mg base CX0 (k + 1) f fd ["thing"] (spIsList K) := by
  refine F.ok scIsList (fun vs H Q E h => ?_) (fun cdv A outer s H vs Q E hr h => ?_)
  · obtain ⟨x, Ty, rfl, _⟩ := h
    rfl
  · obtain ⟨x, Ty, rfl, ht, ok, q⟩ := h
    refine ⟨_, pss_one (ps_ret (pe_cmpR op_in_ty (pe_callTy call_type1 (by rfl) T.typ (by decide +kernel) (pa_cons (pv 0) pa_nil)) (pe_tup (pa_cons (pe_bltn (v := .ty "list") (u := .type "list") (by rfl) X.list (by decide +kernel) rfl) (pa_cons (pe_bltn (v := .ty "tuple") (u := .type "tuple") (by rfl) X.tuple (by decide +kernel) rfl) pa_nil))) (by with_unfolding_all rfl))), ?_⟩
    refine ⟨x, rfl, x, Ty, rfl, ht, by show 2 ≤ sizeLine; decide, fun p hp => ⟨Ty, p, ["list", "tuple"], rfl, rfl, SqT.of upd_same, ok, rfl, ?_⟩⟩
    have e : (["list", "tuple"].any fun t => decide (t = Ty)) = (decide ("list" = Ty) || decide ("tuple" = Ty)) := by simp
    rw [e]
    exact q _ (same_upd hp)
end
/-! ### is_tuple -/
abbrev sIsTup : Stmt := topS 20
theorem scIsTup : FnScope ["thing", "many"] ["thing", "many"] (defScope sIsTup) := ⟨rfl, rfl, rfl, by decide +kernel, rfl, by decide +kernel, by decide +kernel⟩
def spIsTup (K : PySem.W.Frag) : Sp := fun vs H Q _ => ∃ x n, vs = [x, .int n] ∧ ((∃ T, TyB K H x T ∧ tyOk T = true ∧ T ≠ "tuple" ∧ Q (.bl false) H) ∨ ∃ a xs, x = .ref a ∧ SqT K H a xs ∧ Q (.bl (decide ((xs.length : Int) = n))) H)
section
variable {P : Program} {w : World} {K : PySem.W.Frag} {mg : Str → Option Value} {base : Heap}
theorem ok_isTup {f : Addr} {fd : FuncData} {k : Nat} (F : Fun K "is_tuple" "is_tuple" sIsTup f fd) (T : Tp mg) (X : Tx mg) : FnOk P w K mg base CX0 (k + 1) f fd ["thing", "many"] (spIsTup K) := by
  refine F.ok scIsTup (fun vs H Q E h => ?_) (fun cdv A outer s H vs Q E hr h => ?_)
  · obtain ⟨x, n, rfl, _⟩ := h
    rfl
  · obtain ⟨x, n, rfl, h⟩ := h
    refine ⟨_, pss_one (ps_ret (pe_and (pe_cmpR op_eq_ty (pe_callTy call_type1 (by rfl) T.typ (by decide +kernel) (pa_cons (pv 0) pa_nil)) (pe_bltn (v := .ty "tuple") (u := .type "tuple") (by rfl) X.tuple (by decide +kernel) rfl) (nomark _)) (pe_one (pe_cmpR op_eq (pe_callB call_len_seq (by rfl) X.len PySem.boot_len (pa_cons (pv 0) pa_nil)) (pv 1) (nomark _))))), ?_⟩
    rcases h with ⟨Ty, ht, ok, ne, q⟩ | ⟨a, xs, rfl, hx, q⟩
    · refine ⟨x, rfl, x, Ty, rfl, ht, Ty, "tuple", rfl, rfl, ok, rfl, _, rfl, iteE (decide_eq_false ne) q⟩
    · refine ⟨.ref a, rfl, .ref a, "tuple", rfl, .tup hx, "tuple", "tuple", rfl, rfl, rfl, rfl, _, rfl, iteY (by decide) ?_⟩
      refine ⟨.ref a, rfl, a, xs, rfl, .inr hx, .int n, rfl, rfl, ?_⟩
      have e : decide (V.int (xs.length : Int) = V.int n) = decide ((xs.length : Int) = n) := Bool.eq_iff_iff.mpr ⟨fun h => decide_eq_true (V.int.inj (of_decide_eq_true h)), fun h => decide_eq_true (congrArg V.int (of_decide_eq_true h))⟩
      rw [e]
      exact q
end
end Dt
/-! what many laws share -/
namespace L2X
open PySem PySem.Spec PyProof.Rows L2
theorem PI.or {X : Cx} {tg it : Expr} {w1 w2 : TI} (a : PI X tg it w1) (b : PI X tg it w2) : PI X tg it (fun σ H R => w1 σ H R ∨ w2 σ H R) :=
  ⟨fun pins s σ H R I h => h.elim (a.run pins s σ H R I) (b.run pins s σ H R I)⟩
def rJoinK (K : PySem.W.Frag) : V → List V → Hp → VK → Prop := fun x xs H Q => ∃ a p, ∃ ys : List Str, x = .str a ∧ xs = [.ref p] ∧ (SqL K H p (ys.map V.str) ∨ SqT K H p (ys.map V.str)) ∧ (ys.map (·.length)).sum + ys.length * a.length ≤ 16777216 ∧ Q (.str (Txt.join a ys)) H
theorem pe_joinK {X : Cx} {o e : Expr} {to te : TE} {pos apos : Pos} {K : PySem.W.Frag} (hK : X.K = K) (ho : PE X o to) (he : PE X e te) (hs : starEach [e] X.env = [(false, eval e X.env)] := by rfl) (hbase : attributeBase o "join" X.env (eval o X.env) = eval o X.env := by rfl) (hline : (apos.endLine == pos.line) = true := by rfl) :
    PE X (.Call (.Attribute o "join" apos) [e] [] pos) (tM1 (rJoinK K) to te) := by
  subst hK
  exact pe_join ho he hs hbase hline
end L2X
namespace Dt
open PySem PySem.Spec PyProof.Rows L2 L2X
open SX (S)
def ch (c : Nat) : V := .str ⟨#[c]⟩
structure RowsR (high wide : Nat) (rs : List (List Nat)) : Prop where
  len : rs.length = high
  row : ∀ l ∈ rs, RowR wide l
theorem PicR.rows {high wide : Nat} {rs : List (List Nat)} (h : PicR high wide rs) : RowsR high wide rs := ⟨h.len, h.row⟩
theorem set_getD {ls : List (List Nat)} {r : Nat} {l : List Nat} (h : ls[r]? = some l) : ls.getD r [] = l := by
  rw [List.getD_eq_getElem?_getD, h]
  rfl
theorem getD_at {l : List Nat} {c x : Nat} (h : l[c]? = some x) : l.getD c 0 = x := by
  rw [List.getD_eq_getElem?_getD, h]
  rfl
structure Plc (K : PySem.W.Frag) (H : Hp) (xs : List V) (ps : List (Nat × Nat)) : Prop where
  len : xs.length = ps.length
  at_ : ∀ (i : Nat) (x : V) (p : Nat × Nat), xs[i]? = some x → ps[i]? = some p → ∃ t, x = .ref t ∧ SqT K H t [.int p.1, .int p.2]
theorem Plc.same {K : PySem.W.Frag} {H H' : Hp} {xs : List V} {ps : List (Nat × Nat)} (h : Plc K H xs ps) (s : Same H H') : Plc K H' xs ps :=
  ⟨h.len, fun i x p a b => let ⟨t, e, z⟩ := h.at_ i x p a b; ⟨t, e, sameT s z⟩⟩
theorem chars_row (l : List Nat) : (S l).cps.toList.map (fun c => V.str ⟨#[c]⟩) = l.map ch := by
  unfold S
  rfl
theorem same_over {H0 H : Hp} {a : Addr} {o : HO} (s : Same H0 H) (n : H0 a = none) : Same H0 (upd H a o) := fun b u e => by
  rw [upd_ne (ne_of_none e n)]
  exact s _ _ e
theorem lens_rows (cs : List Nat) : ((cs.map fun c => (⟨#[c]⟩ : Str)).map (·.length)).sum = cs.length := lens_ones cs
theorem join_row (cs : List Nat) : Txt.join "" (cs.map fun c => (⟨#[c]⟩ : Str)) = S cs := join_ones cs
theorem ixN_at {n j : Nat} (hj : j < n) : ixN n (j : Int) = some j := by
  unfold ixN
  rw [if_pos (by omega), if_pos (by omega)]
  simp
theorem chars_S (l : List Nat) : chars (S l) = l.map fun c => V.str ⟨#[c]⟩ := by
  unfold chars S
  simp
theorem sum_ones : ∀ n : Nat, (List.replicate n (1 : Int)).sum = n
  | 0 => rfl
  | n + 1 => by
    rw [List.replicate_succ, List.sum_cons, sum_ones n]
    omega
theorem ch_dec (a b : Nat) : decide (V.str ⟨#[a]⟩ = V.str ⟨#[b]⟩) = decide (a = b) := by
  apply Bool.eq_iff_iff.mpr
  rw [decide_eq_true_iff, decide_eq_true_iff]
  constructor
  · intro h
    have e1 : (⟨#[a]⟩ : Str) = ⟨#[b]⟩ := V.str.inj h
    have e2 : (#[a] : Array Nat) = #[b] := congrArg Str.cps e1
    have e3 : [a] = [b] := congrArg Array.toList e2
    exact (List.cons.inj e3).1
  · intro h
    rw [h]
structure ExN (K : PySem.W.Frag) (mg : Str → Option Value) (nm : Str) (C : Addr) : Prop where
  g : mg nm = some (.ref C)
  x : PySem.W.excIn K C [.type "ValueError", .type "Exception", .type "BaseException", .type "object"] "ValueError.__new__" = true
  k : PySem.W.keepIn K (.ref C) = true
  b : PySem.W.subIn K (.ref C) (.type "BaseException") = some true
  t : PySem.W.typeIn K (.ref C) = some (.type "type")
structure Tz (mg : Str → Option Value) : Prop where
  sum : mg "sum" = none
  zip : mg "zip" = none
theorem tyB_same2 {K : PySem.W.Frag} {H H' : Hp} {x : V} {T : String} (t : TyB K H x T) (s : Same H H') : TyB K H' x T := by
  cases t with
  | non => exact .non
  | bl b => exact .bl b
  | int i => exact .int i
  | str x => exact .str x
  | byt b => exact .byt b
  | lst h => exact .lst (s.seq h)
  | tup h => exact .tup (sameT s h)
  | dK h => exact .dK (s _ _ h)
theorem Kt.same {K : PySem.W.Frag} {H H' : Hp} {x : V} (h : Kt K H x) (s : Same H H') : Kt K H' x := let ⟨T, t, ok⟩ := h; ⟨T, tyB_same2 t s, ok⟩
theorem all_true : ∀ n : Nat, (List.replicate n true).all id = true
  | 0 => rfl
  | n + 1 => by
    rw [List.replicate_succ, List.all_cons, all_true n]
    rfl
theorem kt_int {K : PySem.W.Frag} {H : Hp} (i : Int) : Kt K H (.int i) := ⟨"int", .int i, rfl⟩
theorem kt_bl {K : PySem.W.Frag} {H : Hp} (b : Bool) : Kt K H (.bl b) := ⟨"bool", .bl b, rfl⟩
def rD (l : List Nat) : PyData := .str (S l)
def pD (p : Nat × Nat) : PyData := .tuple [.int p.1, .int p.2]
theorem strOk_row {l : List Nat} (h : ∀ c ∈ l, c = 35 ∨ c = 46) : PyData.strOk (S l) = true := by
  unfold PyData.strOk S
  simp
  intro c hc
  rcases h c hc with z | z <;> (subst z; decide)
theorem lay_rows : ∀ ls : List (List Nat), (∀ l ∈ ls, ∀ c ∈ l, c = 35 ∨ c = 46) → PyData.canLayAll0 (ls.map rD) = true ∧ PyData.depthAll (ls.map rD) ≤ 1
  | [], _ => ⟨by simp [PyData.canLayAll0], by simp [PyData.depthAll]⟩
  | l :: r, h => by
    obtain ⟨h1, h2⟩ := lay_rows r fun m hm => h m (List.mem_cons_of_mem _ hm)
    refine ⟨?_, ?_⟩
    · rw [List.map_cons]
      simp [PyData.canLayAll0, PyData.canLay0, rD, h1, strOk_row (h l List.mem_cons_self)]
    · rw [List.map_cons]
      simp only [PyData.depthAll, PyData.depth, rD]
      omega
theorem lay_places : ∀ ps : List (Nat × Nat), PyData.canLayAll0 (ps.map pD) = true ∧ PyData.depthAll (ps.map pD) ≤ 3
  | [] => ⟨by simp [PyData.canLayAll0], by simp [PyData.depthAll]⟩
  | p :: r => by
    obtain ⟨h1, h2⟩ := lay_places r
    refine ⟨?_, ?_⟩
    · rw [List.map_cons]
      simp [PyData.canLayAll0, PyData.canLay0, pD, h1]
    · rw [List.map_cons]
      simp only [PyData.depthAll, PyData.depth, pD]
      omega
theorem shaped_rows {high wide : Nat} {ls : List (List Nat)} (R : RowsR high wide ls) : SeqAt.shaped (.tuple (ls.map rD)) = true := by
  obtain ⟨h1, h2⟩ := lay_rows ls fun l hl => (R.row l hl).sg
  unfold SeqAt.shaped
  rw [Bool.and_eq_true, decide_eq_true_iff]
  refine ⟨by simp [PyData.canLay0, h1], ?_⟩
  simp only [PyData.depth]
  omega
theorem shaped_places (ps : List (Nat × Nat)) : SeqAt.shaped (.list (ps.map pD)) = true := by
  obtain ⟨h1, h2⟩ := lay_places ps
  unfold SeqAt.shaped
  rw [Bool.and_eq_true, decide_eq_true_iff]
  refine ⟨by simp [PyData.canLay0, h1], ?_⟩
  simp only [PyData.depth]
  omega
theorem shaped_place (p : Nat × Nat) : SeqAt.shaped (pD p) = true := rfl
theorem eqv_rows : ∀ ls : List (List Nat), PyData.eqvAll (ls.map rD) (ls.map rD) = true
  | [] => by simp [PyData.eqvAll]
  | l :: r => by
    rw [List.map_cons, PyData.eqvAll, eqv_rows r]
    simp [PyData.eqv, rD]
theorem eqv_pD (p q : Nat × Nat) : PyData.eqv (pD p) (pD q) = decide (p = q) := by
  apply Bool.eq_iff_iff.mpr
  rw [decide_eq_true_iff]
  simp [PyData.eqv, PyData.eqvAll, pD, Prod.ext_iff]
  omega
theorem eqv_places : ∀ ps : List (Nat × Nat), PyData.eqvAll (ps.map pD) (ps.map pD) = true
  | [] => by simp [PyData.eqvAll]
  | p :: r => by
    rw [List.map_cons, PyData.eqvAll, eqv_places r, eqv_pD, decide_eq_true rfl]
    rfl
section
variable {K : PySem.W.Frag} {H : Hp}
theorem dp_rows : ∀ ls : List (List Nat), DpAll K H (ls.map rv) (ls.map rD)
  | [] => .nil
  | l :: r => .cons (.str _) (dp_rows r)
theorem dp_place {t : Addr} {p : Nat × Nat} (h : SqT K H t [.int p.1, .int p.2]) : Dp K H (.ref t) (pD p) := .tup h (.cons (.int _) (.cons (.int _) .nil))
theorem dp_places : ∀ {xs : List V} {ps : List (Nat × Nat)}, Plc K H xs ps → DpAll K H xs (ps.map pD)
  | [], [], _ => .nil
  | [], _ :: _, h => nomatch h.len
  | _ :: _, [], h => nomatch h.len
  | x :: xs, p :: ps, h => by
    obtain ⟨t, e, ht⟩ := h.at_ 0 x p rfl rfl
    subst e
    exact .cons (dp_place ht) (dp_places ⟨Nat.succ.inj h.len, fun i y q a b => h.at_ (i + 1) y q a b⟩)
theorem Plc.app {xs ys : List V} {ps qs : List (Nat × Nat)} (a : Plc K H xs ps) (b : Plc K H ys qs) : Plc K H (xs ++ ys) (ps ++ qs) := by
  refine ⟨by rw [List.length_append, List.length_append, a.len, b.len], fun i x p hx hp => ?_⟩
  by_cases hi : i < xs.length
  · rw [List.getElem?_append_left hi] at hx
    rw [List.getElem?_append_left (by rw [← a.len]; exact hi)] at hp
    exact a.at_ i x p hx hp
  · rw [List.getElem?_append_right (by omega)] at hx
    rw [List.getElem?_append_right (by rw [← a.len]; omega), ← a.len] at hp
    exact b.at_ _ x p hx hp
theorem plc_upd {xs ys zs : List V} {ps : List (Nat × Nat)} {l : Addr} (h : Plc K H xs ps) (hl : H l = some (.lst ys)) : Plc K (upd H l (.lst zs)) xs ps := by
  refine ⟨h.len, fun i x p a b => ?_⟩
  obtain ⟨t, e, ht⟩ := h.at_ i x p a b
  refine ⟨t, e, ?_⟩
  rcases ht with (ht | ⟨o, ht⟩) | ht
  · exact SqT.of (by rw [upd_ne (ne_of ht hl (by intro z; cases z))]; exact ht)
  · exact .inl (.inr ⟨o, by rw [upd_ne (ne_of ht hl (by intro z; cases z))]; exact ht⟩)
  · exact .inr ht
theorem Plc.take {xs : List V} {ps : List (Nat × Nat)} (a : Plc K H xs ps) (n : Nat) : Plc K H (xs.take n) (ps.take n) := by
  refine ⟨by rw [List.length_take, List.length_take, a.len], fun i x p hx hp => ?_⟩
  rw [List.getElem?_take] at hx hp
  split at hx
  · rename_i h
    rw [if_pos h] at hp
    exact a.at_ i x p hx hp
  · cases hx
end
theorem cutV_whole {xs : List V} {lo hi : Option Int} (h : HT.sIx xs.length 0 lo = 0 ∧ HT.sIx xs.length xs.length hi = xs.length) : cutV xs lo hi = xs := by
  unfold cutV
  rw [h.1, h.2, List.drop_zero, Nat.sub_zero, List.take_length]
theorem sl_any {K : PySem.W.Frag} {H : Hp} {a : Addr} {xs : List V} {lo hi : Option Int} {Q : VK} (h : H a = some (.tup xs)) (q : ∀ z H2, Same H H2 → H2 z = some (.tup (cutV xs lo hi)) → Q (.ref z) H2) : rSlA K (.ref a) lo hi H Q :=
  ⟨a, xs, rfl, SqT.of h, fun w => q a H (Same.refl H) (by rw [cutV_whole w]; exact h), fun _ p hp => q p _ (same_upd hp) upd_same⟩
theorem cat_any {K : PySem.W.Frag} {H : Hp} {a b : Addr} {xs ys : List V} {Q : VK} (h : H a = some (.tup xs)) (g : H b = some (.tup ys)) (hz : xs.length + ys.length ≤ sizeLine) (q : ∀ z H2, Same H H2 → H2 z = some (.tup (xs ++ ys)) → Q (.ref z) H2) :
    rCatA K (.ref a) (.ref b) H Q :=
  ⟨a, b, xs, ys, rfl, rfl, SqT.of h, SqT.of g, hz, fun e => q b H (Same.refl H) (by rw [e]; exact g), fun _ e => q a H (Same.refl H) (by rw [e, List.append_nil]; exact h), fun _ _ p hp => q p _ (same_upd hp) upd_same⟩
theorem rep_any {K : PySem.W.Frag} {H : Hp} {a : Addr} {x : V} {k : Nat} {Q : VK} (h : H a = some (.tup [x])) (h1 : 1 ≤ k) (h2 : k ≤ 1000) (q : ∀ z H2, Same H H2 → H2 z = some (.tup (List.replicate k x)) → Q (.ref z) H2) :
    rRepA K (.ref a) (.int k) H Q := by
  have flat : ∀ n : Nat, (List.replicate n [x]).flatten = List.replicate n x := by
    intro n
    induction n with
    | zero => rfl
    | succ n ih => rw [List.replicate_succ, List.flatten_cons, ih, List.replicate_succ]; rfl
  refine ⟨a, k, [x], rfl, rfl, SqT.of h, (by simp), by omega, by omega, by show 1 ≤ 1000; decide, fun e => q a H (Same.refl H) ?_, fun _ p hp => q p _ (same_upd hp) ?_⟩
  · have : k = 1 := by omega
    subst this
    exact h
  · rw [upd_same, Int.toNat_natCast, flat]
end Dt
/-! a list or a tuple walked, one rule for both -/
namespace L2X
open PySem PySem.Spec PyProof.Rows L2
/-- at a stands a list (true) or a tuple (false) of xs -/
def Sq (K : PySem.W.Frag) (H : Hp) (b : Bool) (a : Addr) (xs : List V) : Prop := match b with
  | true => SqL K H a xs
  | false => SqT K H a xs
theorem sameT0 {K : PySem.W.Frag} {H H' : Hp} {a : Addr} {xs : List V} (e : Same H H') (h : SqT K H a xs) : SqT K H' a xs := by
  rcases h with (h | ⟨o, h⟩) | h
  · exact .inl (.inl (e _ _ h))
  · exact .inl (.inr ⟨o, e _ _ h⟩)
  · exact .inr h
theorem Sq.same {K : PySem.W.Frag} {H H' : Hp} {b : Bool} {a : Addr} {xs : List V} (h : Sq K H b a xs) (s : Same H H') : Sq K H' b a xs := by
  cases b with
  | true => exact s.seq h
  | false => exact sameT0 s h
def Its (K : PySem.W.Frag) (b : Bool) (a : Addr) : It := match b with
  | true => Itl K a
  | false => Itt K a
def iSq (K : PySem.W.Frag) (tl : TE) : TI := fun σ H R => tl σ H fun x H1 => ∃ b a xs, x = .ref a ∧ Sq K H1 b a xs ∧ R (Its K b a) H1
theorem pi_sq {X : Cx} {tg l : Expr} {tl : TE} (hl : PE X l tl) : PI X tg l (iSq X.K tl) := by
  refine ⟨fun pins s σ H R I h => ?_⟩
  refine thn (hl.run pins s σ H _ I h) fun v s1 ⟨x, H1, I1, r1, q1⟩ => ?_
  obtain ⟨b, a, xs, e, hq, q⟩ := q1
  subst e
  cases r1
  cases b with
  | true =>
    obtain ⟨its, rv, p, hz⟩ := I1.list hq
    refine wpAny_pyIter_list p.isList ?_
    refine ⟨s1.heap.objs.size, [s1.heap.objs.size], _, _, H1, rfl, I1.kept (t' := s1.toks) fun b o e => Heap.get?_push_of_some _ e, turn_list a _, ⟨_, Heap.get?_push_size _ rfl, rfl, rfl⟩, fun b hb => ?_, q⟩
    have e : b = s1.heap.objs.size := by simpa using hb
    subst e
    exact I1.fpOk (Nat.le_refl _) (I1.hok.fresh (Nat.le_refl _))
  | false =>
    obtain ⟨its, rv, p, hz⟩ := I1.tuple hq
    refine wpAny_pyIter_tuple (show s1.heap.IsTuple a its.toArray from p) ?_
    refine ⟨s1.heap.objs.size, [s1.heap.objs.size], _, _, H1, rfl, I1.kept (t' := s1.toks) fun b o e => Heap.get?_push_of_some _ e, turn_tuple a _, ⟨_, Heap.get?_push_size _ rfl, rfl, rfl⟩, fun b hb => ?_, q⟩
    have e : b = s1.heap.objs.size := by simpa using hb
    subst e
    exact I1.fpOk (Nat.le_refl _) (I1.hok.fresh (Nat.le_refl _))
theorem lc_sq {K : PySem.W.Frag} {b : Bool} {a : Addr} {xs : List V} {g : TG} {tt : TT} {te : TE} {vs : List Nat} {σ : L2.St} {H1 : Hp} {D : Addr} {Qd : Hp → Prop} (Pv : Nat → Hp → Prop) (h0 : Pv 0 (upd H1 D (.lst []))) (hl : ∀ i H, i ≤ xs.length → Pv i H → Sq K H b a xs)
    (hs : ∀ i x H, xs[i]? = some x → Pv i H → g x (wipe σ vs) H fun σ2 H2 => wipe σ2 vs = wipe σ vs ∧ tt σ2 H2 fun b H3 =>
      if b = true then te σ2 H3 fun y H4 => ∃ acc, H4 D = some (.lst acc) ∧ acc.length < sizeLine ∧ Pv (i + 1) (upd H4 D (.lst (acc ++ [y]))) else Pv (i + 1) H3) (hd : ∀ H, Pv xs.length H → Qd H) :
    ∃ W : Nat → Nat → Hp → Prop, (∃ m, W 0 m (upd H1 D (.lst []))) ∧ ∀ i m H, W i m H →
      ((Its K b a).stop i H ∧ Qd H) ∨ ((Its K b a).go i H ∧ ∃ Nx : Hp → Prop, (∀ H', Nx H' → ∃ m', m' < m ∧ W (i + 1) m' H') ∧ ∀ x H', (Its K b a).yld i H x H' → g x (wipe σ vs) H' fun σ2 H2 => wipe σ2 vs = wipe σ vs ∧ tt σ2 H2 fun b H3 =>
        if b = true then te σ2 H3 fun y H4 => ∃ acc, H4 D = some (.lst acc) ∧ acc.length < sizeLine ∧ Nx (upd H4 D (.lst (acc ++ [y]))) else Nx H3) := by
  cases b with
  | true => exact lc_list Pv h0 hl hs hd
  | false => exact lc_tup Pv h0 hl hs hd
end L2X
namespace L2X
open PySem PySem.Spec PyProof.Rows L2
/-! ### comprehensions of two clauses, and of one, over anything -/
theorem lc2_by {J : It} {g : TG} {tt : TT} {wi1 : TI} {g1 : TG} {tt1 : TT} {te : TE} {vs vs1 : List Nat} {σ : L2.St} {H1 : Hp} {D : Addr} {Qd : Hp → Prop} (n : Nat) (Pv : Nat → Hp → Prop) (h0 : Pv 0 (upd H1 D (.lst [])))
    (hstop : ∀ H, Pv n H → J.stop n H) (hgo : ∀ i H, i < n → Pv i H → J.go i H)
    (hs : ∀ i x H H', i < n → Pv i H → J.yld i H x H' → g x (wipe σ vs) H' fun σ2 H2 => wipe σ2 vs = wipe σ vs ∧ tt σ2 H2 fun b H3 =>
      if b = true then wi1 σ2 H3 fun J1 H4 => ∃ W1 : Nat → Nat → Hp → Prop, (∃ m, W1 0 m H4) ∧ ∀ j k H, W1 j k H →
        (J1.stop j H ∧ Pv (i + 1) H) ∨ (J1.go j H ∧ ∃ Nx1 : Hp → Prop, (∀ H', Nx1 H' → ∃ k', k' < k ∧ W1 (j + 1) k' H') ∧ ∀ x H', J1.yld j H x H' → g1 x (wipe σ2 vs1) H' fun σ3 H5 => wipe σ3 vs1 = wipe σ2 vs1 ∧ tt1 σ3 H5 fun b H6 =>
          if b = true then te σ3 H6 fun y H7 => ∃ acc, H7 D = some (.lst acc) ∧ acc.length < sizeLine ∧ Nx1 (upd H7 D (.lst (acc ++ [y]))) else Nx1 H6)
      else Pv (i + 1) H3) (hd : ∀ H, Pv n H → Qd H) :
    ∃ W : Nat → Nat → Hp → Prop, (∃ m, W 0 m (upd H1 D (.lst []))) ∧ ∀ i m H, W i m H →
      (J.stop i H ∧ Qd H) ∨ (J.go i H ∧ ∃ Nx : Hp → Prop, (∀ H', Nx H' → ∃ m', m' < m ∧ W (i + 1) m' H') ∧ ∀ x H', J.yld i H x H' → g x (wipe σ vs) H' fun σ2 H2 => wipe σ2 vs = wipe σ vs ∧ tt σ2 H2 fun b H3 =>
        if b = true then wi1 σ2 H3 fun J1 H4 => ∃ W1 : Nat → Nat → Hp → Prop, (∃ m, W1 0 m H4) ∧ ∀ j k H, W1 j k H →
          (J1.stop j H ∧ Nx H) ∨ (J1.go j H ∧ ∃ Nx1 : Hp → Prop, (∀ H', Nx1 H' → ∃ k', k' < k ∧ W1 (j + 1) k' H') ∧ ∀ x H', J1.yld j H x H' → g1 x (wipe σ2 vs1) H' fun σ3 H5 => wipe σ3 vs1 = wipe σ2 vs1 ∧ tt1 σ3 H5 fun b H6 =>
            if b = true then te σ3 H6 fun y H7 => ∃ acc, H7 D = some (.lst acc) ∧ acc.length < sizeLine ∧ Nx1 (upd H7 D (.lst (acc ++ [y]))) else Nx1 H6)
        else Nx H3) := by
  refine ⟨fun i m H => m = n - i ∧ i ≤ n ∧ Pv i H, ⟨n, by simp, Nat.zero_le _, h0⟩, ?_⟩
  rintro i m H ⟨rfl, hi, p⟩
  by_cases hlt : i < n
  · exact .inr ⟨hgo i H hlt p, Pv (i + 1), fun H' p' => ⟨n - (i + 1), by omega, rfl, hlt, p'⟩, fun x H' y => hs i x H H' hlt p y⟩
  · have e : i = n := by omega
    subst e
    exact .inl ⟨hstop H p, hd H p⟩
theorem lc2_in {J1 : It} {g1 : TG} {tt1 : TT} {te : TE} {vs1 : List Nat} {σ2 : L2.St} {H4 : Hp} {D : Addr} {Nx : Hp → Prop} (n : Nat) (Pv : Nat → Hp → Prop) (h0 : Pv 0 H4) (hstop : ∀ H, Pv n H → J1.stop n H) (hgo : ∀ i H, i < n → Pv i H → J1.go i H)
    (hs : ∀ i x H H', i < n → Pv i H → J1.yld i H x H' → g1 x (wipe σ2 vs1) H' fun σ3 H5 => wipe σ3 vs1 = wipe σ2 vs1 ∧ tt1 σ3 H5 fun b H6 =>
      if b = true then te σ3 H6 fun y H7 => ∃ acc, H7 D = some (.lst acc) ∧ acc.length < sizeLine ∧ Pv (i + 1) (upd H7 D (.lst (acc ++ [y]))) else Pv (i + 1) H6) (hd : ∀ H, Pv n H → Nx H) :
    ∃ W1 : Nat → Nat → Hp → Prop, (∃ m, W1 0 m H4) ∧ ∀ j k H, W1 j k H →
      (J1.stop j H ∧ Nx H) ∨ (J1.go j H ∧ ∃ Nx1 : Hp → Prop, (∀ H', Nx1 H' → ∃ k', k' < k ∧ W1 (j + 1) k' H') ∧ ∀ x H', J1.yld j H x H' → g1 x (wipe σ2 vs1) H' fun σ3 H5 => wipe σ3 vs1 = wipe σ2 vs1 ∧ tt1 σ3 H5 fun b H6 =>
        if b = true then te σ3 H6 fun y H7 => ∃ acc, H7 D = some (.lst acc) ∧ acc.length < sizeLine ∧ Nx1 (upd H7 D (.lst (acc ++ [y]))) else Nx1 H6) := by
  refine ⟨fun i m H => m = n - i ∧ i ≤ n ∧ Pv i H, ⟨n, by simp, Nat.zero_le _, h0⟩, ?_⟩
  rintro i m H ⟨rfl, hi, p⟩
  by_cases hlt : i < n
  · exact .inr ⟨hgo i H hlt p, Pv (i + 1), fun H' p' => ⟨n - (i + 1), by omega, rfl, hlt, p'⟩, fun x H' y => hs i x H H' hlt p y⟩
  · have e : i = n := by omega
    subst e
    exact .inl ⟨hstop H p, hd H p⟩
end L2X
namespace Dt
open PySem PySem.Spec PyProof.Rows L2 L2X
open SX (S)
/-! ### dots -/
theorem smallT {n : Nat} (h : n < 100000) : n < sizeLine := Nat.lt_of_lt_of_le h (by decide)
def rowDots (r : Nat) (l : List Nat) : List (Nat × Nat) := (l.zipIdx.filter fun p => decide (p.1 = 35)).map fun p => (r, p.2)
def dotsP (rs : List (List Nat)) : List (Nat × Nat) := (rs.zipIdx.map fun p => rowDots p.2 p.1).flatten
theorem map_at {α β : Type} {f : α → β} {l : List α} {i : Nat} {y : β} (h : (l.map f)[i]? = some y) : ∃ x, l[i]? = some x ∧ y = f x := by
  rw [List.getElem?_map] at h
  cases e : l[i]? with
  | none =>
    rw [e] at h
    cases h
  | some z =>
    rw [e] at h
    exact ⟨z, rfl, (Option.some.inj h).symm⟩
theorem dotsP_snoc {rs : List (List Nat)} {i : Nat} {l : List Nat} (h : rs[i]? = some l) : dotsP (rs.take (i + 1)) = dotsP (rs.take i) ++ rowDots i l := by
  have hi : i < rs.length := (List.getElem?_eq_some_iff.mp h).1
  unfold dotsP
  rw [take_snoc h, List.zipIdx_append, List.map_append, List.flatten_append]
  have : (rs.take i).length = i := by
    rw [List.length_take]
    omega
  simp [this]
theorem rowDots_snoc {r : Nat} {l : List Nat} {j c : Nat} (h : l[j]? = some c) : rowDots r (l.take (j + 1)) = rowDots r (l.take j) ++ if c = 35 then [(r, j)] else [] := by
  have hj : j < l.length := (List.getElem?_eq_some_iff.mp h).1
  unfold rowDots
  rw [take_snoc h, List.zipIdx_append, List.filter_append, List.map_append]
  have : (l.take j).length = j := by
    rw [List.length_take]
    omega
  by_cases e : c = 35
  · simp [this, e]
  · simp [this, e]
theorem plc_one {K : PySem.W.Frag} {H : Hp} {xs : List V} {ps : List (Nat × Nat)} {D t : Addr} {r c : Nat} (h : Plc K H xs ps) (hD : H D = some (.lst xs)) (ht : H t = none) :
    Plc K (upd (upd H t (.tup [.int r, .int c])) D (.lst (xs ++ [.ref t]))) (xs ++ [.ref t]) (ps ++ [(r, c)]) := by
  have s := same_upd (o := .tup [V.int r, V.int c]) ht
  have one : Plc K (upd H t (.tup [V.int r, V.int c])) [V.ref t] [(r, c)] := ⟨rfl, fun i x pp hx hpp => by
    cases i with
    | zero =>
      cases hx
      cases hpp
      exact ⟨t, rfl, SqT.of upd_same⟩
    | succ i => exact nomatch hx⟩
  exact plc_upd ((h.same s).app one) (s _ _ hD)
abbrev sDots : Stmt := topS 28
theorem scDots : FnScope ["picture", "at", "row", "column", "sign"] ["picture"] (defScope sDots) := ⟨rfl, rfl, rfl, by decide +kernel, rfl, by decide +kernel, by decide +kernel⟩
def spDots (K : PySem.W.Frag) : Sp := fun vs H Q _ => ∃ (a : Addr) (high wide : Nat) (rs : List (List Nat)), vs = [.ref a] ∧ H a = some (.tup (rs.map rv)) ∧ PicR high wide rs ∧
  ∀ D xs H', Same H H' → H D = none → H' D = some (.lst xs) → Plc K H' xs (dotsP rs) → xs.length ≤ 7200 → Q (.ref D) H'
section
variable {P : Program} {w : World} {K : PySem.W.Frag} {mg : Str → Option Value} {base : Heap} {C CP : Addr}
theorem ok_dots {f : Addr} {fd : FuncData} {k : Nat} (F : Fun K "dots" "dots" sDots f fd) (en : mg "enumerate" = none) (G : GW P w K mg base C (k + 1)) : FnOk P w K mg base (L2.CX P w) (k + 2) f fd ["picture"] (spDots K) := by
  obtain ⟨fW, fdW, GW, mW, kW, bW⟩ := G.ex
  refine F.okX scDots (fun vs H Q E h => ?_) (fun cdv A outer s H vs Q E hr h => ?_)
  · obtain ⟨a, _, _, _, rfl, _⟩ := h
    rfl
  · obtain ⟨a, high, wide, rs, rfl, ha, pr, q⟩ := h
    have nd := scDots.nd
    refine ⟨_, pss_cons (ps_expr (pe_callS GW hr (by rfl) mW kW bW (fun σ => passAt (takes_of rfl rfl rfl rfl) σ) (pa_cons (pv 0) pa_nil)))
      (pss_one (ps_ret (pe_lc2 (own := [("at", 1), ("row", 2), ("column", 3), ("sign", 4)]) (vs1 := [3, 4]) (g := gTup K 2 (gCons (gName 1) (gCons (gName 2) gNil))) (tt := tYes) (wi1 := iEnumG K (tCons (tVar 2) tNil)) (g1 := gTup K 2 (gCons (gName 3) (gCons (gName 4) gNil))) rfl nd
        (pi_enumG (by rfl) en (pa_cons (pv 0) pa_nil)) (blkOk_by (N := ["picture", "at", "row", "column", "sign"]) (sc := defScope sDots) (by decide +kernel)) (by decide)
        (fun _ _ _ _ _ => pg_tup rfl (pgs_cons (pg_name (i := 1) nd rfl (Or.inl rfl)) (pgs_cons (pg_name (i := 2) nd rfl (Or.inl rfl)) pgs_nil))) (fun _ _ _ _ _ => pts_nil)
        (fun _ _ _ _ _ => pi_enumG (by rfl) en (pa_cons (pv 2) pa_nil))
        (fun _ _ _ _ _ => pg_tup rfl (pgs_cons (pg_name (i := 3) nd rfl (Or.inl rfl)) (pgs_cons (pg_name (i := 4) nd rfl (Or.inl rfl)) pgs_nil)))
        (fun _ _ _ _ _ => pts_one (pt_cmpR op_eq (pv 4) pe_str (nomark _))) (fun _ _ _ _ _ => pe_tup (pa_cons (pv 1) (pa_cons (pv 3) pa_nil)))))), ?_⟩
    refine ⟨.ref a, rfl, .ref a, true, rfl, askPic pr ha, fun _ H1 s1 => ?_, fun e => nomatch e⟩
    have ha1 := s1 _ _ ha
    have w1 := pr.w1
    have h1' := pr.h1
    have hlen := pr.len
    refine ⟨.ref a, rfl, .tup a, rs.map rv, rfl, SqT.of ha1, fun D hD => lc2_by rs.length (fun i H2 => Same H1 H2 ∧ ∃ xs, H2 D = some (.lst xs) ∧ Plc K H2 xs (dotsP (rs.take i)) ∧ xs.length ≤ i * 120) ?_ ?_ ?_ ?_ ?_⟩
    · exact ⟨same_upd hD, [], upd_same, ⟨rfl, fun i x p h => nomatch h⟩, Nat.zero_le _⟩
    · rintro H2 ⟨sm, _⟩
      exact ⟨_, SqT.of (sm _ _ ha1), List.length_map _⟩
    · rintro i H2 hi ⟨sm, _⟩
      exact ⟨_, _, SqT.of (sm _ _ ha1), List.getElem?_eq_getElem (by rw [List.length_map]; exact hi)⟩
    · rintro i x H2 H3 hi ⟨sm, xs, hx, pl, lx⟩ ⟨T, y, rfl, nT, rfl, hy⟩
      obtain ⟨l, hl, rfl⟩ := map_at (hy _ (SqT.of (sm _ _ ha1)))
      have l1 := (pr.row l (List.mem_of_getElem? hl)).len
      have sT := same_upd (o := .tup [V.int (i : Nat), rv l]) nT
      refine ⟨T, _, rfl, SqT.of upd_same, rfl, _, _, rfl, _, _, rfl, rfl, rfl, ?_⟩
      refine ⟨rv l, rfl, .txt (S l), chars (S l), rfl, rfl, lc2_in wide (fun j H4 => Same H1 H4 ∧ ∃ xs, H4 D = some (.lst xs) ∧ Plc K H4 xs (dotsP (rs.take i) ++ rowDots i (l.take j)) ∧ xs.length ≤ i * 120 + j) ?_ ?_ ?_ ?_ ?_⟩
      · exact ⟨sm.trans sT, xs, sT _ _ hx, by rw [List.take_zero]; show Plc K _ xs (dotsP (rs.take i) ++ []); rw [List.append_nil]; exact pl.same sT, lx⟩
      · rintro H4 _
        exact ⟨_, rfl, by rw [chars_S, List.length_map, l1]⟩
      · rintro j H4 hj _
        exact ⟨_, _, rfl, List.getElem?_eq_getElem (by rw [chars_S, List.length_map, l1]; exact hj)⟩
      · rintro j x H4 H5 hj ⟨sm4, ys, hys, pl4, ly⟩ ⟨T2, z, rfl, nT2, rfl, hz⟩
        have hz' := hz _ rfl
        rw [chars_S] at hz'
        obtain ⟨c, hc, rfl⟩ := map_at hz'
        have sT2 := same_upd (o := .tup [V.int (j : Nat), V.str ⟨#[c]⟩]) nT2
        refine ⟨T2, _, rfl, SqT.of upd_same, rfl, _, _, rfl, _, _, rfl, rfl, rfl, .str ⟨#[c]⟩, rfl, rfl, _, rfl, ?_⟩
        have e1 : decide (V.str ⟨#[c]⟩ = V.str "#") = decide (c = 35) := by
          rw [s_hash]
          exact ch_dec c 35
        rw [e1, rowDots_snoc hc]
        have hys5 := sT2 _ _ hys
        have nD : D ≠ T2 := fun e => by
          rw [e, nT2] at hys
          cases hys
        by_cases ec : c = 35
        · rw [decide_eq_true ec, if_pos ec]
          refine iteT ⟨.int i, rfl, .int j, rfl, by show 2 ≤ sizeLine; decide, fun t ht => ⟨ys, ?_, smallT (by omega), ?_, ys ++ [.ref t], upd_same, ?_, ?_⟩⟩
          · rw [upd_ne (ne_of_none hys5 ht)]
            exact hys5
          · exact same_over ((sm4.trans sT2).trans (same_upd ht)) hD
          · rw [← List.append_assoc]
            exact plc_one (pl4.same sT2) hys5 ht
          · rw [List.length_append, List.length_singleton]
            omega
        · rw [decide_eq_false ec, if_neg ec, List.append_nil]
          exact iteF ⟨sm4.trans sT2, ys, hys5, pl4.same sT2, by omega⟩
      · rintro H4 ⟨sm4, ys, hys, pl4, ly⟩
        have e : l.take wide = l := List.take_of_length_le (by omega)
        rw [e, ← dotsP_snoc hl] at pl4
        exact ⟨sm4, ys, hys, pl4, by omega⟩
    · rintro H2 ⟨sm, xs, hx, pl, lx⟩
      rw [List.take_length] at pl
      exact q D xs H2 (s1.trans sm) (s1.free hD) hx pl (by omega)
end
end Dt
namespace Dt
open PySem PySem.Spec PyProof.Rows L2 L2X
open SX (S)
/-! ### what a def promises, in one -/
/-- a def of the text as it stands behind the top -/
structure Df (K : PySem.W.Frag) (mg : Str → Option Value) (nm : Str) (st : Stmt) (ps : List Str) : Prop where
  ex : ∃ f fd, Fun K nm nm st f fd ∧ mg nm = some (.ref f) ∧ Binds K fd ps []
/-- .. with its promise -/
structure Pm (P : Program) (w : World) (K : PySem.W.Frag) (mg : Str → Option Value) (base : Heap) (CX : CXT) (k : Nat) (nm : Str) (ps : List Str) (sp : Sp) : Prop where
  ex : ∃ f fd, FnOk P w K mg base CX k f fd ps sp ∧ mg nm = some (.ref f) ∧ PySem.W.keepIn K (.ref f) = true ∧ Binds K fd ps []
theorem Pm.of {P : Program} {w : World} {K : PySem.W.Frag} {mg : Str → Option Value} {base : Heap} {CX : CXT} {k : Nat} {nm : Str} {st : Stmt} {ps : List Str} {sp : Sp} (d : Df K mg nm st ps) (h : ∀ f fd, Fun K nm nm st f fd → FnOk P w K mg base CX k f fd ps sp) : Pm P w K mg base CX k nm ps sp := by
  obtain ⟨f, fd, F, m, b⟩ := d.ex
  exact ⟨f, fd, h f fd F, m, F.kp, b⟩
/-! ### parts -/
def strB (x y : V) (n : Int) : Bool := match y with
  | .int m => decide (1 ≤ m) && betw x 0 (n - m)
  | _ => false
theorem strB_no {x y : V} {n : Int} (h : isInt y = false) : strB x y n = false := by
  cases y with
  | int i => cases h
  | _ => rfl
theorem strB_true {x y : V} {n : Nat} (h : strB x y (n : Int) = true) : ∃ t m : Nat, x = .int t ∧ y = .int m ∧ 1 ≤ m ∧ t + m ≤ n := by
  cases y with
  | int m =>
    unfold strB at h
    rw [Bool.and_eq_true, decide_eq_true_iff] at h
    obtain ⟨h1, h2⟩ := h
    cases x with
    | int t =>
      rw [betw_int, Bool.and_eq_true, decide_eq_true_iff, decide_eq_true_iff] at h2
      refine ⟨t.toNat, m.toNat, ?_, ?_, by omega, by omega⟩
      · rw [Int.toNat_of_nonneg h2.1]
      · rw [Int.toNat_of_nonneg (by omega)]
    | _ => cases h2
  | _ => cases h
def cutR (rs : List (List Nat)) (t l h w : Nat) : List (List Nat) := ((rs.drop t).take h).map fun r => (r.drop l).take w
theorem cutV_mid (xs : List V) (t h : Nat) (b : t + h ≤ xs.length) : cutV xs (some (t : Int)) (some ((t : Int) + (h : Int))) = (xs.drop t).take h := by
  have e : ((t : Int) + (h : Int)) = ((t + h : Nat) : Int) := by omega
  unfold cutV
  rw [e, HT.sIx_nat, HT.sIx_nat, Nat.min_eq_left b, Nat.min_eq_left (by omega), Nat.add_sub_cancel_left]
theorem cutS_mid (l : List Nat) (t h : Nat) (b : t + h ≤ l.length) : cutS (S l) (some (t : Int)) (some ((t : Int) + (h : Int))) = S ((l.drop t).take h) := by
  have e : ((t : Int) + (h : Int)) = ((t + h : Nat) : Int) := by omega
  unfold cutS
  rw [e, SX.S_len, HT.sIx_nat, HT.sIx_nat, Nat.min_eq_left b, Nat.min_eq_left (by omega), Nat.add_sub_cancel_left]
section
variable {P : Program} {w : World} {K : PySem.W.Frag} {mg : Str → Option Value} {base : Heap} {C CP : Addr}
end
end Dt
namespace Dt
open PySem PySem.Spec PyProof.Rows L2 L2X
open SX (S)
/-! ### unlike -/
def misZ (l m : List Nat) : Nat := ((l.zip m).filter fun p => decide (p.1 ≠ p.2)).length
def misP (rs ss : List (List Nat)) : Int := ((rs.zip ss).map fun p => (misZ p.1 p.2 : Int)).sum
abbrev sUS : Stmt := topS 30
theorem scUS : FnScope ["row", "other", "sign", "beside"] ["row", "other"] (defScope sUS) := ⟨rfl, rfl, rfl, by decide +kernel, rfl, by decide +kernel, by decide +kernel⟩
def spUS : Sp := fun vs H Q _ => ∃ l m, vs = [rv l, rv m] ∧ l.length = m.length ∧ l.length ≤ 120 ∧ ∀ H', Same H H' → Q (.int (misZ l m)) H'
abbrev sUnlP : Stmt := topS 29
theorem scUnlP : FnScope ["one", "other", "row", "beside"] ["one", "other"] (defScope sUnlP) := ⟨rfl, rfl, rfl, by decide +kernel, rfl, by decide +kernel, by decide +kernel⟩
/-- of two pictures -/
def spUnlP (CP : Addr) : Sp := fun vs H Q E => ∃ (a b : Addr) (high wide high2 wide2 : Nat) (rs ss : List (List Nat)), vs = [.ref a, .ref b] ∧ H a = some (.tup (rs.map rv)) ∧ H b = some (.tup (ss.map rv)) ∧ PicR high wide rs ∧ PicR high2 wide2 ss ∧
  ((high = high2 ∧ wide = wide2) → ∀ H', Same H H' → Q (.int (misP rs ss)) H') ∧ (¬ (high = high2 ∧ wide = wide2) → ∀ H', Same H H' → E (.ref CP) none H')
section
variable {P : Program} {w : World} {K : PySem.W.Frag} {mg : Str → Option Value} {base : Heap} {C CP : Addr}
theorem ok_US {f : Addr} {fd : FuncData} {k : Nat} (F : Fun K "_unlike_signs" "_unlike_signs" sUS f fd) (Z : Tz mg) : FnOk P w K mg base CX0 (k + 1) f fd ["row", "other"] spUS := by
  refine F.ok scUS (fun vs H Q E h => ?_) (fun cdv A outer s H vs Q E hr h => ?_)
  · obtain ⟨l, m, rfl, _⟩ := h
    rfl
  · obtain ⟨l, m, rfl, hlm, hl, q⟩ := h
    have nd := scUS.nd
    refine ⟨_, pss_one (ps_ret (pe_callB (cr_sum rfl) (by rfl) Z.sum (by decide +kernel) (pa_cons (pe_lc (own := [("sign", 2), ("beside", 3)]) (g := gTup K 2 (gCons (gName 2) (gCons (gName 3) gNil))) rfl nd (pi_zipG (by rfl) Z.zip (pa_cons (pv 0) (pa_cons (pv 1) pa_nil))) (blkOk_by (N := ["row", "other", "sign", "beside"]) (sc := defScope sUS) (by decide +kernel))
      (fun _ _ _ _ _ => pg_tup rfl (pgs_cons (pg_name (i := 2) nd rfl (Or.inl rfl)) (pgs_cons (pg_name (i := 3) nd rfl (Or.inl rfl)) pgs_nil)))
      (fun _ _ _ _ _ => pts_one (pt_cmpR op_ne (pv 2) (pv 3) (nomark _))) (fun _ _ _ _ _ => pe_int)) pa_nil))), ?_⟩
    refine ⟨rv l, rfl, rv m, rfl, .txt (S l), .txt (S m), chars (S l), chars (S m), rfl, rfl, rfl, fun D hD => lc_zipG (K := K) (A := .txt (S l)) (B := .txt (S m)) (xs := chars (S l)) (ys := chars (S m)) ?_
      (fun i H2 => Same H H2 ∧ H2 D = some (.lst ((List.replicate (((l.zip m).take i).filter fun p => decide (p.1 ≠ p.2)).length (1 : Int)).map V.int))) ⟨same_upd hD, upd_same⟩ (fun _ _ _ _ => ⟨rfl, rfl⟩) ?_ ?_⟩
    · rw [chars_S, chars_S, List.length_map, List.length_map, hlm]
    · rintro i x y H2 T hx hy ⟨sm, h2⟩ hT
      rw [chars_S, List.getElem?_map] at hx hy
      obtain ⟨a, ha, rfl⟩ : ∃ a, l[i]? = some a ∧ x = V.str ⟨#[a]⟩ := by
        cases e : l[i]? with
        | none =>
          rw [e] at hx
          cases hx
        | some z =>
          rw [e] at hx
          exact ⟨z, rfl, (Option.some.inj hx).symm⟩
      obtain ⟨b, hb, rfl⟩ : ∃ b, m[i]? = some b ∧ y = V.str ⟨#[b]⟩ := by
        cases e : m[i]? with
        | none =>
          rw [e] at hy
          cases hy
        | some z =>
          rw [e] at hy
          exact ⟨z, rfl, (Option.some.inj hy).symm⟩
      have hz : (l.zip m)[i]? = some (a, b) := List.getElem?_zip_eq_some.mpr ⟨ha, hb⟩
      have sT := same_upd (o := .tup [V.str ⟨#[a]⟩, V.str ⟨#[b]⟩]) hT
      have hlen : (((l.zip m).take i).filter fun p => decide (p.1 ≠ p.2)).length ≤ 120 := by
        refine Nat.le_trans (List.length_filter_le _ _) ?_
        rw [List.length_take, List.length_zip]
        omega
      refine ⟨T, _, rfl, SqT.of upd_same, rfl, _, _, rfl, _, _, rfl, rfl, rfl, .str ⟨#[a]⟩, rfl, .str ⟨#[b]⟩, rfl, rfl, _, rfl, ?_⟩
      rw [ch_dec]
      cases e : decide (a = b) with
      | true =>
        refine iteF ⟨sm.trans sT, ?_⟩
        rw [sT _ _ h2, take_snoc hz, List.filter_append]
        have : (List.filter (fun p : Nat × Nat => decide (p.1 ≠ p.2)) [(a, b)]) = [] := by
          have := of_decide_eq_true e
          simp [this]
        rw [this, List.append_nil]
      | false =>
        refine iteT ⟨_, sT _ _ h2, ?_, ?_, ?_⟩
        · rw [List.length_map, List.length_replicate]
          exact small1000 (by omega)
        · exact fun b o e => by
            rw [upd_ne (ne_of_none e hD)]
            exact sT _ _ (sm _ _ e)
        · rw [upd_same, take_snoc hz, List.filter_append]
          have : (List.filter (fun p : Nat × Nat => decide (p.1 ≠ p.2)) [(a, b)]) = [(a, b)] := by
            have := of_decide_eq_false e
            simp [this]
          rw [this, List.length_append, List.length_singleton, List.replicate_succ', List.map_append]
          rfl
    · rintro H2 ⟨sm, h2⟩
      have e : (l.zip m).take (chars (S l)).length = l.zip m := by
        apply List.take_of_length_le
        rw [chars_S, List.length_map, List.length_zip]
        omega
      rw [e] at h2
      refine ⟨D, _, rfl, SqL.of h2, ?_⟩
      rw [sum_ones]
      exact q H2 sm
theorem ok_unlP {f fS fW fU : Addr} {fd fdS fdW fdU : FuncData} {k : Nat} (F : Fun K "unlike" "unlike" sUnlP f fd) (Z : Tz mg) (NP : ExN K mg "NoPlace" CP) (G : GW P w K mg base C (k + 1)) (GZ : GS P w K mg base C (k + 1))
    (GU : FnOk P w K mg base CX0 (k + 1) fU fdU ["row", "other"] spUS) (mU : mg "_unlike_signs" = some (.ref fU)) (kU : PySem.W.keepIn K (.ref fU) = true) (bU : Binds K fdU ["row", "other"] []) : FnOk P w K mg base (L2.CX P w) (k + 2) f fd ["one", "other"] (spUnlP CP) := by
  obtain ⟨fW, fdW, GW, mW, kW, bW⟩ := G.ex
  obtain ⟨fS, fdS, GS, mS, kS, bS⟩ := GZ.ex
  refine F.okX scUnlP (fun vs H Q E h => ?_) (fun cdv A outer s H vs Q E hr h => ?_)
  · obtain ⟨a, b, _, _, _, _, _, _, rfl, _⟩ := h
    rfl
  · obtain ⟨a, b, high, wide, high2, wide2, rs, ss, rfl, ha, hb, pr, ps, q1, q2⟩ := h
    have nd := scUnlP.nd
    refine ⟨_, pss_cons (ps_expr (pe_callS GW hr (by rfl) mW kW bW (fun σ => passAt (takes_of rfl rfl rfl rfl) σ) (pa_cons (pv 0) pa_nil)))
      (pss_cons (ps_expr (pe_callS GW hr (by rfl) mW kW bW (fun σ => passAt (takes_of rfl rfl rfl rfl) σ) (pa_cons (pv 1) pa_nil)))
      (pss_cons (ps_if (pt_cmpR (op_neD hr.units) (pe_callS GS hr (by rfl) mS kS bS (fun σ => passAt (takes_of rfl rfl rfl rfl) σ) (pa_cons (pv 0) pa_nil)) (pe_callS GS hr (by rfl) mS kS bS (fun σ => passAt (takes_of rfl rfl rfl rfl) σ) (pa_cons (pv 1) pa_nil)) (nomark _))
        (pss_one (ps_raise rfl (takes_of rfl rfl rfl rfl) (pmk_own PySem.F.excBase_ValueError NP.x NP.g NP.k (raises_own NP.b NP.t) rfl))) pss_nil)
      (pss_one (ps_ret (pe_callB (cr_sum rfl) (by rfl) Z.sum (by decide +kernel) (pa_cons (pe_lc (own := [("row", 2), ("beside", 3)]) (g := gTup K 2 (gCons (gName 2) (gCons (gName 3) gNil))) (tt := tYes) rfl nd (pi_zipG (by rfl) Z.zip (pa_cons (pv 0) (pa_cons (pv 1) pa_nil))) (blkOk_by (N := ["one", "other", "row", "beside"]) (sc := defScope sUnlP) (by decide +kernel))
        (fun _ _ _ _ _ => pg_tup rfl (pgs_cons (pg_name (i := 2) nd rfl (Or.inl rfl)) (pgs_cons (pg_name (i := 3) nd rfl (Or.inl rfl)) pgs_nil)))
        (fun _ _ _ _ _ => pts_nil) (fun _ _ _ _ _ => pe_call GU hr (by rfl) mU kU bU .nil pass0 (pa_cons (pv 2) (pa_cons (pv 3) pa_nil)))) pa_nil)))))), ?_⟩
    refine ⟨.ref a, rfl, .ref a, true, rfl, askPic pr ha, fun _ H1 s1 => ?_, fun e => nomatch e⟩
    refine ⟨.ref b, rfl, .ref b, true, rfl, askPic ps (s1 _ _ hb), fun _ H2 s2 => ?_, fun e => nomatch e⟩
    have s12 := s1.trans s2
    refine ⟨.ref a, rfl, .ref a, rfl, .inr ⟨a, _, rfl, SqT.of (s12 _ _ ha), kn_rows pr, picOk_pic pr, fun p3 H3 s3 n3 h3 => ?_⟩⟩
    refine ⟨.ref b, rfl, .ref b, rfl, .inr ⟨b, _, rfl, SqT.of (s3 _ _ (s12 _ _ hb)), kn_rows ps, picOk_pic ps, fun p4 H4 s4 n4 h4 => ?_⟩⟩
    have sA := (s12.trans s3).trans s4
    have e1 := picSize pr
    have e2 := picSize ps
    refine ⟨.tuple [.int (((rs.map rv).length : Nat) : Int), .int (lenV ((rs.map rv).headD .non))], .tuple [.int (((ss.map rv).length : Nat) : Int), .int (lenV ((ss.map rv).headD .non))], .tup (SqT.of (s4 _ _ h3)) (.cons (.int _) (.cons (.int _) .nil)), .tup (SqT.of h4) (.cons (.int _) (.cons (.int _) .nil)), rfl, rfl, _, rfl, ?_⟩
    rw [e1.1, e1.2, e2.1, e2.2]
    have ee : PyData.eqv (.tuple [.int (high : Int), .int (wide : Int)]) (.tuple [.int (high2 : Int), .int (wide2 : Int)]) = decide (high = high2 ∧ wide = wide2) := by
      apply Bool.eq_iff_iff.mpr
      rw [decide_eq_true_iff]
      simp [PyData.eqv, PyData.eqvAll]
      omega
    rw [ee]
    by_cases hs : high = high2 ∧ wide = wide2
    · rw [decide_eq_true hs]
      refine iteF ?_
      refine ⟨.ref a, rfl, .ref b, rfl, .tup a, .tup b, rs.map rv, ss.map rv, rfl, SqT.of (sA _ _ ha), SqT.of (sA _ _ hb), fun D hD => lc_zipG (K := K) (A := .tup a) (B := .tup b) (xs := rs.map rv) (ys := ss.map rv) ?_
        (fun i H5 => Same H H5 ∧ H5 D = some (.lst ((((rs.zip ss).take i).map fun p => (misZ p.1 p.2 : Int)).map V.int))) ⟨sA.trans (same_upd hD), upd_same⟩ (fun i H5 _ z => ⟨SqT.of (z.1 _ _ ha), SqT.of (z.1 _ _ hb)⟩) ?_ ?_⟩
      · rw [List.length_map, List.length_map, pr.len, ps.len, hs.1]
      · rintro i x y H5 T hx hy ⟨sm, h5⟩ hT
        rw [List.getElem?_map] at hx hy
        obtain ⟨l, hl, rfl⟩ : ∃ l, rs[i]? = some l ∧ x = rv l := by
          cases e : rs[i]? with
          | none =>
            rw [e] at hx
            cases hx
          | some z =>
            rw [e] at hx
            exact ⟨z, rfl, (Option.some.inj hx).symm⟩
        obtain ⟨m, hm, rfl⟩ : ∃ m, ss[i]? = some m ∧ y = rv m := by
          cases e : ss[i]? with
          | none =>
            rw [e] at hy
            cases hy
          | some z =>
            rw [e] at hy
            exact ⟨z, rfl, (Option.some.inj hy).symm⟩
        have hz : (rs.zip ss)[i]? = some (l, m) := List.getElem?_zip_eq_some.mpr ⟨hl, hm⟩
        have sT := same_upd (o := .tup [rv l, rv m]) hT
        have l1 := (pr.row l (List.mem_of_getElem? hl)).len
        have l2 := (ps.row m (List.mem_of_getElem? hm)).len
        have w1 := pr.w1
        have h1' := pr.h1
        have hi : i < rs.length := (List.getElem?_eq_some_iff.mp hl).1
        rw [pr.len] at hi
        refine ⟨T, _, rfl, SqT.of upd_same, rfl, _, _, rfl, _, _, rfl, rfl, rfl, rv l, rfl, rv m, rfl, l, m, rfl, by omega, by omega, fun H6 s6 => ?_⟩
        refine ⟨_, s6 _ _ (sT _ _ h5), ?_, ?_, ?_⟩
        · rw [List.length_map, List.length_map, List.length_take]
          exact small1000 (by omega)
        · exact fun b o e => by
            rw [upd_ne (ne_of_none (sA _ _ e) hD)]
            exact s6 _ _ (sT _ _ (sm _ _ e))
        · rw [upd_same, take_snoc hz, List.map_append, List.map_append]
          rfl
      · rintro H5 ⟨sm, h5⟩
        have e : (rs.zip ss).take (rs.map rv).length = rs.zip ss := by
          apply List.take_of_length_le
          rw [List.length_map, List.length_zip]
          omega
        rw [e] at h5
        exact ⟨D, _, rfl, SqL.of h5, q1 hs H5 sm⟩
    · rw [decide_eq_false hs]
      exact iteT (q2 hs _ sA)
end
end Dt
namespace Dt
open PySem PySem.Spec PyProof.Rows L2 L2X
open SX (S)
/-! ### dots turned over -/
def flipC (c : Nat) : Nat := if c = 35 then 46 else 35
def flipAt (ls : List (List Nat)) (r c : Nat) : List (List Nat) := ls.set r ((ls.getD r []).set c (flipC ((ls.getD r []).getD c 0)))
def flipAll (ls : List (List Nat)) (ps : List (Nat × Nat)) : List (List Nat) := ps.foldl (fun a p => flipAt a p.1 p.2) ls
theorem flip_ok {c : Nat} : flipC c = 35 ∨ flipC c = 46 := by
  unfold flipC
  split
  · exact .inr rfl
  · exact .inl rfl
theorem flipAt_eq {ls : List (List Nat)} {r c x : Nat} {l : List Nat} (h : ls[r]? = some l) (hx : l[c]? = some x) : flipAt ls r c = ls.set r (l.set c (flipC x)) := by
  unfold flipAt
  rw [set_getD h, getD_at hx]
theorem RowsR.flip {high wide r c : Nat} {rs : List (List Nat)} (h : RowsR high wide rs) (hr : r < high) (hc : c < wide) : RowsR high wide (flipAt rs r c) := by
  have hr' : r < rs.length := by rw [h.len]; exact hr
  have e1 : rs[r]? = some rs[r] := List.getElem?_eq_getElem hr'
  have rw1 := h.row rs[r] (List.getElem_mem hr')
  have hc' : c < rs[r].length := by rw [rw1.len]; exact hc
  have e2 : rs[r][c]? = some rs[r][c] := List.getElem?_eq_getElem hc'
  rw [flipAt_eq e1 e2]
  refine ⟨by rw [List.length_set, h.len], fun l hl => ?_⟩
  rcases List.mem_or_eq_of_mem_set hl with q | q
  · exact h.row l q
  · rw [q]
    refine ⟨by rw [List.length_set, rw1.len], fun x hx => ?_⟩
    rcases List.mem_or_eq_of_mem_set hx with q2 | q2
    · exact rw1.sg x q2
    · rw [q2]
      exact flip_ok
theorem RowsR.flips {high wide : Nat} : ∀ {ps : List (Nat × Nat)} {rs : List (List Nat)}, RowsR high wide rs → (∀ p ∈ ps, p.1 < high ∧ p.2 < wide) → RowsR high wide (flipAll rs ps)
  | [], _, h, _ => h
  | p :: ps, rs, h, hp => by
    have h1 := hp p List.mem_cons_self
    exact RowsR.flips (ps := ps) (h.flip h1.1 h1.2) fun q hq => hp q (List.mem_cons_of_mem _ hq)
structure Grid (H : Hp) (g : Addr) (as : List Addr) (ls : List (List Nat)) : Prop where
  top : H g = some (.lst (as.map V.ref))
  len : as.length = ls.length
  row : ∀ (i : Nat) (a : Addr) (l : List Nat), as[i]? = some a → ls[i]? = some l → H a = some (.lst (l.map ch))
  nd : as.Nodup
  off : g ∉ as
theorem Grid.same {H H' : Hp} {g : Addr} {as : List Addr} {ls : List (List Nat)} (G : Grid H g as ls) (s : Same H H') : Grid H' g as ls := ⟨s _ _ G.top, G.len, fun i a l h1 h2 => s _ _ (G.row i a l h1 h2), G.nd, G.off⟩
theorem Grid.put {H : Hp} {g a : Addr} {as : List Addr} {ls : List (List Nat)} {r c x : Nat} {l : List Nat} (G : Grid H g as ls) (ha : as[r]? = some a) (hl : ls[r]? = some l) : Grid (upd H a (.lst ((l.map ch).set c (ch x)))) g as (ls.set r (l.set c x)) := by
  have na : g ≠ a := fun e => G.off (e ▸ List.mem_of_getElem? ha)
  refine ⟨by rw [upd_ne na]; exact G.top, by rw [List.length_set, G.len], fun i b m hb hm => ?_, G.nd, G.off⟩
  by_cases e : i = r
  · subst e
    rw [ha] at hb
    cases hb
    have hlt := (List.getElem?_eq_some_iff.mp hl).1
    rw [List.getElem?_set_self hlt] at hm
    cases hm
    rw [upd_same, List.map_set]
  · rw [List.getElem?_set_ne (Ne.symm e)] at hm
    have nb : b ≠ a := fun q => by
      subst q
      obtain ⟨h1, e1⟩ := List.getElem?_eq_some_iff.mp hb
      obtain ⟨h2, e2⟩ := List.getElem?_eq_some_iff.mp ha
      exact e ((List.getElem_inj G.nd).mp (e1.trans e2.symm))
    rw [upd_ne nb]
    exact G.row i b m hb hm
/-- one more row -/
theorem Grid.add {H : Hp} {g a : Addr} {as : List Addr} {ls : List (List Nat)} {l : List Nat} (G : Grid H g as ls) (hn : H a = none) : Grid (upd (upd H a (.lst (l.map ch))) g (.lst (as.map V.ref ++ [V.ref a]))) g (as ++ [a]) (ls ++ [l]) := by
  have na : g ≠ a := ne_of_none G.top hn
  have old : ∀ b ∈ as, H b ≠ none := fun b hb e => by
    obtain ⟨i, hi⟩ := List.mem_iff_getElem?.mp hb
    have hlt : i < ls.length := by
      rw [← G.len]
      exact (List.getElem?_eq_some_iff.mp hi).1
    have := G.row i b _ hi (List.getElem?_eq_getElem hlt)
    rw [e] at this
    cases this
  have am : a ∉ as := fun h => old a h hn
  refine ⟨?_, by rw [List.length_append, List.length_append, G.len]; rfl, fun i b m hb hm => ?_, ?_, ?_⟩
  · rw [upd_same, List.map_append]
    rfl
  · have nbg : b ≠ g := fun q => by
      subst q
      rcases List.mem_append.mp (List.mem_of_getElem? hb) with z | z
      · exact G.off z
      · exact na (List.mem_singleton.mp z)
    rw [upd_ne nbg]
    by_cases hi : i < as.length
    · rw [List.getElem?_append_left hi] at hb
      rw [List.getElem?_append_left (by rw [← G.len]; exact hi)] at hm
      have nba : b ≠ a := fun q => am (q ▸ List.mem_of_getElem? hb)
      rw [upd_ne nba]
      exact G.row i b m hb hm
    · have hi2 : i = as.length := by
        have := (List.getElem?_eq_some_iff.mp hb).1
        rw [List.length_append, List.length_singleton] at this
        omega
      rw [hi2, List.getElem?_concat_length] at hb
      rw [hi2, G.len, List.getElem?_concat_length] at hm
      cases hb
      cases hm
      rw [upd_same]
  · rw [List.nodup_append]
    exact ⟨G.nd, (by simp), fun x hx y hy e => am (by rw [← List.mem_singleton.mp hy, ← e]; exact hx)⟩
  · intro h
    rcases List.mem_append.mp h with z | z
    · exact G.off z
    · exact na (List.mem_singleton.mp z)
/-- .. and its rows are new -/
structure GridN (H0 H : Hp) (g : Addr) (as : List Addr) (ls : List (List Nat)) : Prop where
  gr : Grid H g as ls
  sm : Same H0 H
  ng : H0 g = none
  nr : ∀ a ∈ as, H0 a = none
theorem GridN.put {H0 H : Hp} {g a : Addr} {as : List Addr} {ls : List (List Nat)} {r c x : Nat} {l : List Nat} (G : GridN H0 H g as ls) (ha : as[r]? = some a) (hl : ls[r]? = some l) : GridN H0 (upd H a (.lst ((l.map ch).set c (ch x)))) g as (ls.set r (l.set c x)) :=
  ⟨G.gr.put ha hl, same_over G.sm (G.nr a (List.mem_of_getElem? ha)), G.ng, G.nr⟩
theorem GridN.add {H0 H : Hp} {g a : Addr} {as : List Addr} {ls : List (List Nat)} {l : List Nat} (G : GridN H0 H g as ls) (hn : H a = none) : GridN H0 (upd (upd H a (.lst (l.map ch))) g (.lst (as.map V.ref ++ [V.ref a]))) g (as ++ [a]) (ls ++ [l]) := by
  have na := G.sm.free hn
  refine ⟨G.gr.add hn, same_over (same_over G.sm na) G.ng, G.ng, fun b hb => ?_⟩
  rcases List.mem_append.mp hb with z | z
  · exact G.nr b z
  · rw [List.mem_singleton.mp z]
    exact na
theorem GridN.same {H0 H H' : Hp} {g : Addr} {as : List Addr} {ls : List (List Nat)} (G : GridN H0 H g as ls) (s : Same H H') : GridN H0 H' g as ls := ⟨G.gr.same s, G.sm.trans s, G.ng, G.nr⟩
theorem GridN.same' {H0 H : Hp} {g E : Addr} {as : List Addr} {ls : List (List Nat)} {xs ys : List V} (G : GridN H0 H g as ls) (_ : H E = some (.lst xs)) (n1 : g ≠ E) (n2 : ∀ a ∈ as, a ≠ E) (n3 : H0 E = none) : GridN H0 (upd H E (.lst ys)) g as ls :=
  ⟨⟨by rw [upd_ne n1]; exact G.gr.top, G.gr.len, fun i a l h1 h2 => by rw [upd_ne (n2 a (List.mem_of_getElem? h1))]; exact G.gr.row i a l h1 h2, G.gr.nd, G.gr.off⟩, same_over G.sm n3, G.ng, G.nr⟩
end Dt
namespace L2X
open PySem PySem.Spec PyProof.Rows L2
/-- i ** 3 of an int of any decent size -/
def CPow3 (i j : Int) : Prop := j = 3 ∧ i.natAbs < 2 ^ 1000
theorem op_pow3 {X : Cx} : OpR X (binaryOp .Pow) (rI CPow3 fun i j => .int (i ^ j.toNat)) := opI fun i j _ _ _ _ _ hc q => by
  obtain ⟨rfl, h⟩ := hc
  refine pow_int (by decide) ?_ q
  have z := PyProof.Rows.intBits_le h
  omega
end L2X
namespace Dt
open PySem PySem.Spec PyProof.Rows L2 L2X
open SX (S)
/-! ### the drawing list -/
def Du (H : Hp) (d : Addr) (n : Nat) : Prop := ∃ a b t : Int, H d = some (.lst [.int a, .int b, .int t]) ∧ 0 ≤ t ∧ t ≤ (n : Int)
/-- all but d stays -/
def Do (d : Addr) (H H' : Hp) : Prop := ∀ b o, H b = some o → b ≠ d → H' b = some o
theorem Do.refl {d : Addr} {H : Hp} : Do d H H := fun _ _ e _ => e
theorem Do.trans {d : Addr} {H H1 H2 : Hp} (a : Do d H H1) (b : Do d H1 H2) : Do d H H2 := fun x o e h1 => b x o (a x o e h1) h1
theorem Do.same {d : Addr} {H H' : Hp} (a : Same H H') : Do d H H' := fun b o e _ => a b o e
theorem Du.same {H H' : Hp} {d : Addr} {n : Nat} (D : Du H d n) (s : Same H H') : Du H' d n := by
  obtain ⟨a, b, t, h, h0, h1⟩ := D
  exact ⟨a, b, t, s _ _ h, h0, h1⟩
theorem Du.le {H : Hp} {d : Addr} {n m : Nat} (D : Du H d n) (l : n ≤ m) : Du H d m := by
  obtain ⟨a, b, t, h, h0, h1⟩ := D
  exact ⟨a, b, t, h, h0, by omega⟩
theorem Du.new {H : Hp} {d p : Addr} {n : Nat} (D : Du H d n) (h : H p = none) : p ≠ d := by
  obtain ⟨a, b, t, e, _⟩ := D
  exact fun z => by (rw [z, e] at h; cases h)
theorem Du.upd {H : Hp} {d p : Addr} {n : Nat} {o : HO} (D : Du H d n) (h : p ≠ d) : Du (upd H p o) d n := by
  obtain ⟨a, b, t, e, h0⟩ := D
  exact ⟨a, b, t, by rw [upd_ne h.symm]; exact e, h0⟩
theorem Do.nn {d p : Addr} {n : Nat} {H H' : Hp} (a : Do d H H') (D : Du H' d n) (h : H' p = none) : H p = none := by
  cases e : H p with
  | none => rfl
  | some o =>
    rw [a _ _ e (D.new h)] at h
    cases h
/-- what was under no watch ahead may change -/
theorem Do.upd {d p : Addr} {H H' : Hp} {o : HO} (a : Do d H H') (h : H p = none) : Do d H (upd H' p o) := fun b u e n => by
  rw [upd_ne (ne_of_none e h)]
  exact a _ _ e n
def fuel : Nat := 1000000000000
abbrev sNx : Stmt := topS 49
theorem scNx : FnScope ["draw", "below", "found"] ["draw", "below"] (defScope sNx) := ⟨rfl, rfl, rfl, by decide +kernel, rfl, by decide +kernel, by decide +kernel⟩
def spNx : Sp := fun vs H Q _ => ∃ (d : Addr) (b : Int) (n : Nat), vs = [.ref d, .int b] ∧ Du H d n ∧ n ≤ fuel ∧ 0 < b ∧ b < 1073741824 ∧ ∀ (m : Int) (H' : Hp), 0 ≤ m → m < b → Du H' d (n + 1) → Do d H H' → Q (.int m) H'
abbrev sPk : Stmt := topS 50
theorem scPk : FnScope ["draw", "some"] ["draw", "some"] (defScope sPk) := ⟨rfl, rfl, rfl, by decide +kernel, rfl, by decide +kernel, by decide +kernel⟩
/-- of a list, or of a text -/
def spPk (K : PySem.W.Frag) : Sp := fun vs H Q _ => ∃ (d : Addr) (x : V) (n : Nat), vs = [.ref d, x] ∧ Du H d n ∧ n ≤ fuel ∧
  ((∃ (l : Addr) (xs : List V), x = .ref l ∧ l ≠ d ∧ H l = some (.lst xs) ∧ 0 < xs.length ∧ xs.length ≤ 1000 ∧ ∀ (j : Nat) (y : V) (H' : Hp), xs[j]? = some y → Du H' d (n + 1) → Do d H H' → Q y H') ∨
   (∃ (z : Str), x = .str z ∧ 0 < z.length ∧ z.length ≤ 1000 ∧ ∀ (c : Nat) (H' : Hp), c ∈ z.cps.toList → Du H' d (n + 1) → Do d H H' → Q (.str ⟨#[c]⟩) H'))
abbrev sBg : Stmt := topS 48
theorem scBg : FnScope ["cell", "k"] ["cell", "k"] (defScope sBg) := ⟨rfl, rfl, rfl, by decide +kernel, rfl, by decide +kernel, by decide +kernel⟩
def spBg : Sp := fun vs H Q _ => ∃ (c k : Int), vs = [.int c, .int k] ∧ 0 ≤ k ∧ k ≤ 1000 ∧ ∀ (d : Addr) (H' : Hp), H d = none → Same H H' → Du H' d 0 → Q (.ref d) H'
theorem small_bits {a b : Nat} {i : Int} (h0 : 0 ≤ i) (h1 : i < (b : Int)) (hb : b ≤ 2 ^ a) : i.natAbs < 2 ^ a := by omega
section
variable {P : Program} {w : World} {K : PySem.W.Frag} {mg : Str → Option Value} {base : Heap}
theorem ok_nx {f : Addr} {fd : FuncData} {k : Nat} (F : Fun K "_law_next" "_law_next" sNx f fd) : FnOk P w K mg base CX0 (k + 1) f fd ["draw", "below"] spNx := by
  refine F.ok scNx (fun vs H Q E h => ?_) (fun cdv A outer s H vs Q E hr h => ?_)
  · obtain ⟨d, b, n, rfl, _⟩ := h
    rfl
  · obtain ⟨d, b, n, rfl, D, hn, hb0, hb1, q⟩ := h
    have nd := scNx.nd
    refine ⟨_, pss_cons (ps_if (pt_cmpR op_gt (pe_ix ix_list (pv 0) pe_int (fun _ _ => rfl)) pe_int (nomark _))
        (pss_cons (ps_set (i := 2) nd rfl (.inl rfl) (pe_op op_mod (pe_ix ix_list (pv 0) pe_int (fun _ _ => rfl)) (pv 1)))
        (pss_cons (ps_asg (pe_op op_fdiv (pe_ix ix_list (pv 0) pe_int (fun _ _ => rfl)) (pv 1)) (pg_sub (pv 0) pe_int set_list))
        (pss_one (ps_ret (pv 2))))) pss_nil)
      (pss_cons (ps_asg (pe_op op_add (pe_ix ix_list (pv 0) pe_int (fun _ _ => rfl)) pe_int) (pg_sub (pv 0) pe_int set_list))
      (pss_cons (ps_set (i := 2) nd rfl (.inl rfl) (pe_op op_add (pe_op op_mod (pe_ix ix_list (pv 0) pe_int (fun _ _ => rfl)) pe_int) (pe_op op_mul pe_int (pe_ix ix_list (pv 0) pe_int (fun _ _ => rfl)))))
      (pss_cons (ps_set (i := 2) nd rfl (.inl rfl) (pe_op op_mulX (pv 2) (pe_op op_add (pe_op op_add (pe_op op_mod (pe_ix ix_list (pv 0) pe_int (fun _ _ => rfl)) pe_int) (pe_op op_mulX (pe_op op_mul pe_int (pe_ix ix_list (pv 0) pe_int (fun _ _ => rfl))) (pe_ix ix_list (pv 0) pe_int (fun _ _ => rfl)))) pe_int)))
      (pss_one (ps_ret (pe_op op_mod (pe_op op_fdiv (pe_op op_mod (pe_op op_pow3 (pv 2) pe_int) pe_int) pe_int) (pv 1))))))), ?_⟩
    obtain ⟨a, e, t, hd, t0, t1⟩ := id D
    refine ⟨.ref d, rfl, d, _, 0, .int a, rfl, rfl, SqL.of hd, rfl, a, 0, rfl, rfl, _, rfl, ite2 (fun e1 => ?_) (fun e1 => ?_)⟩
    · refine ⟨.ref d, rfl, d, _, 0, .int a, rfl, rfl, SqL.of hd, rfl, .int b, rfl, a, b, rfl, rfl, hb0, ?_⟩
      refine ⟨.ref d, rfl, d, _, 0, .int a, rfl, rfl, SqL.of hd, rfl, .int b, rfl, a, b, rfl, rfl, ⟨hb0, hb1⟩, ?_⟩
      refine ⟨.ref d, rfl, d, _, 0, 0, rfl, rfl, hd, rfl, .int (a % b), rfl, q _ _ (Int.emod_nonneg _ (by omega)) (Int.emod_lt_of_pos _ hb0) ⟨a / b, e, t, upd_same, t0, by omega⟩ ?_⟩
      intro b' o e' n'
      rw [upd_ne n']
      exact e'
    · refine ⟨.ref d, rfl, d, _, 2, .int t, rfl, rfl, SqL.of hd, rfl, t, 1, rfl, rfl, ?_⟩
      refine ⟨.ref d, rfl, d, _, 2, 2, rfl, rfl, hd, rfl, ?_⟩
      have hd2 : (upd H d (.lst [V.int a, V.int e, V.int (t + 1)])) d = some (.lst [V.int a, V.int e, V.int (t + 1)]) := upd_same
      have fu : n ≤ 1000000000000 := hn
      have m0 := Int.emod_nonneg e (show (2147483629 : Int) ≠ 0 by decide)
      have m1 := Int.emod_lt_of_pos e (show (0 : Int) < 2147483629 by decide)
      have l0 := Int.emod_nonneg e (show (2147483587 : Int) ≠ 0 by decide)
      have l1 := Int.emod_lt_of_pos e (show (0 : Int) < 2147483587 by decide)
      refine ⟨.ref d, rfl, d, _, 1, .int e, rfl, rfl, SqL.of hd2, rfl, e, 2147483629, rfl, rfl, (by show (0 : Int) < 2147483629; decide), ?_⟩
      refine ⟨.ref d, rfl, d, _, 2, .int (t + 1), rfl, rfl, SqL.of hd2, rfl, 104729, t + 1, rfl, rfl, .inl ⟨by decide, by decide⟩, _, _, rfl, rfl, ?_⟩
      have f0 : 0 ≤ e % 2147483629 + 104729 * (t + 1) := by omega
      have f1 : e % 2147483629 + 104729 * (t + 1) < 1000000000000000000000 := by omega
      obtain ⟨F, hF⟩ : ∃ F, F = e % 2147483629 + 104729 * (t + 1) := ⟨_, rfl⟩
      rw [← hF] at f0 f1
      refine ⟨.int F, congrArg (fun z => some (some (V.int z))) hF.symm, .ref d, rfl, d, _, 1, .int e, rfl, rfl, SqL.of hd2, rfl, e, 2147483587, rfl, rfl, (by show (0 : Int) < 2147483587; decide), ?_⟩
      refine ⟨.ref d, rfl, d, _, 2, .int (t + 1), rfl, rfl, SqL.of hd2, rfl, 7919, t + 1, rfl, rfl, .inl ⟨by decide, by decide⟩, ?_⟩
      refine ⟨.ref d, rfl, d, _, 2, .int (t + 1), rfl, rfl, SqL.of hd2, rfl, _, _, rfl, rfl, mulx_ok (a := 64) (b := 64) (by omega) (by omega) (by decide), _, _, rfl, rfl, _, _, rfl, rfl, _, _, rfl, rfl, ?_⟩
      have g0 : 0 ≤ 7919 * (t + 1) * (t + 1) := Int.mul_nonneg (by omega) (by omega)
      have g1 : 7919 * (t + 1) * (t + 1) ≤ (7919 * 1000000000001) * 1000000000001 := Int.mul_le_mul (by omega) (by omega) (by omega) (by omega)
      generalize 7919 * (t + 1) * (t + 1) = G at g0 g1 ⊢
      refine ⟨mulx_ok (a := 100) (b := 100) (by omega) (by omega) (by decide), ?_⟩
      have h0 : 0 ≤ F * (e % 2147483587 + G + 11) := Int.mul_nonneg f0 (by omega)
      have h1 : F * (e % 2147483587 + G + 11) ≤ 1000000000000000000000 * 10000000000000000000000000000000 := Int.mul_le_mul (by omega) (by omega) (by omega) (by omega)
      obtain ⟨M, hM⟩ : ∃ M, M = F * (e % 2147483587 + G + 11) := ⟨_, rfl⟩
      rw [← hM] at h0 h1
      have big : M.natAbs < 2 ^ 1000 := by
        have : (1000000000000000000000 * 10000000000000000000000000000000 : Nat) < 2 ^ 1000 := by decide +kernel
        omega
      have mm0 := Int.emod_nonneg (M ^ 3) (show (2147483647 : Int) ≠ 0 by decide)
      have mm1 := Int.emod_lt_of_pos (M ^ 3) (show (0 : Int) < 2147483647 by decide)
      refine ⟨.int M, congrArg (fun z => some (some (V.int z))) hM.symm, M, 3, rfl, rfl, ⟨rfl, big⟩, _, _, rfl, rfl, (by show (0 : Int) < 2147483647; decide), _, _, rfl, rfl, ⟨by decide, by decide⟩, .int b, rfl, _, _, rfl, rfl, hb0, q _ _ (Int.emod_nonneg _ (by omega)) (Int.emod_lt_of_pos _ hb0) ⟨a, e, t + 1, hd2, by omega, by omega⟩ ?_⟩
      intro b' o e' n'
      rw [upd_ne n']
      exact e'
theorem ok_bg {f : Addr} {fd : FuncData} {k : Nat} (F : Fun K "_law_begun" "_law_begun" sBg f fd) (mx : mg "max" = none) : FnOk P w K mg base CX0 (k + 1) f fd ["cell", "k"] spBg := by
  refine F.ok scBg (fun vs H Q E h => ?_) (fun cdv A outer s H vs Q E hr h => ?_)
  · obtain ⟨c, k, rfl, _⟩ := h
    rfl
  · obtain ⟨c, k, rfl, k0, k1, q⟩ := h
    refine ⟨_, pss_one (ps_ret (pe_lst (pa_cons (pe_callB (call_max2 rfl) (by rfl) mx (by decide +kernel) (pa_cons pe_int (pa_cons (pe_op op_sub (pv 0) (pe_op op_pow pe_int pe_int)) pa_nil))) (pa_cons (pe_op op_add (pv 0) (pe_op op_mul pe_int (pv 1))) (pa_cons pe_int pa_nil))))), ?_⟩
    refine ⟨.int c, rfl, 10, 18, rfl, rfl, ⟨by decide, by decide, by decide⟩, c, _, rfl, rfl, 0, _, rfl, .int c, rfl, .int k, rfl, 977, k, rfl, rfl, .inl ⟨by decide, by decide⟩, c, _, rfl, rfl, by show 3 ≤ sizeLine; decide, fun l hl => ?_⟩
    exact q l _ hl (same_upd hl) ⟨_, _, 0, upd_same, Int.le_refl _, Int.le_refl _⟩
theorem ok_pk {f : Addr} {fd : FuncData} {k : Nat} (F : Fun K "_law_pick" "_law_pick" sPk f fd) (T : Tx mg) (fN : Addr) (fdN : FuncData) (GN : FnOk P w K mg base CX0 (k + 1) fN fdN ["draw", "below"] spNx) (mN : mg "_law_next" = some (.ref fN)) (kN : PySem.W.keepIn K (.ref fN) = true) (bN : Binds K fdN ["draw", "below"] []) : FnOk P w K mg base CX0 (k + 2) f fd ["draw", "some"] (spPk K) := by
  refine F.ok scPk (fun vs H Q E h => ?_) (fun cdv A outer s H vs Q E hr h => ?_)
  · obtain ⟨d, x, n, rfl, _⟩ := h
    rfl
  · obtain ⟨d, x, n, rfl, D, hn, h⟩ := h
    have hu := hu_of hr
    rcases h with ⟨l, xs, rfl, nl, hl, x0, x1, q⟩ | ⟨z, rfl, z0, z1, q⟩
    · refine ⟨_, pss_one (ps_ret (pe_ix ix_list (pv 1) (pe_call GN hr (by rfl) mN kN bN .nil pass0 (pa_cons (pv 0) (pa_cons (pe_callB call_len_seq (by rfl) T.len PySem.boot_len (pa_cons (pv 1) pa_nil)) pa_nil))) (fun _ _ => rfl))), ?_⟩
      refine ⟨.ref l, rfl, .ref d, rfl, .ref l, rfl, l, xs, rfl, .inl (SqL.of hl), d, (xs.length : Int), n, rfl, D, hn, by omega, by omega, fun m H1 m0 m1 D1 dn1 => ?_⟩
      obtain ⟨j, rfl⟩ := Int.eq_ofNat_of_zero_le m0
      have hj : j < xs.length := by omega
      have hx : xs[j]? = some xs[j] := List.getElem?_eq_getElem hj
      exact ⟨l, xs, (j : Int), xs[j], rfl, rfl, SqL.of (dn1 _ _ hl nl), atI_nat hx, q j _ H1 hx D1 dn1⟩
    · refine ⟨_, pss_one (ps_ret (pe_ix ix_str (pv 1) (pe_call GN hr (by rfl) mN kN bN .nil pass0 (pa_cons (pv 0) (pa_cons (pe_callB call_len_str (by rfl) T.len PySem.boot_len (pa_cons (pv 1) pa_nil)) pa_nil))) (fun _ _ => rfl))), ?_⟩
      have zs : z.length ≤ sizeLine := Nat.le_of_lt (small1000 z1)
      refine ⟨.str z, rfl, .ref d, rfl, .str z, rfl, z, rfl, zs, d, (z.length : Int), n, rfl, D, hn, by omega, by omega, fun m H1 m0 m1 D1 dn1 => ?_⟩
      obtain ⟨j, rfl⟩ := Int.eq_ofNat_of_zero_le m0
      have hj : j < z.cps.toList.length := by
        have : z.cps.toList.length = z.length := by simp [Str.length]
        omega
      have hx : z.cps.toList[j]? = some z.cps.toList[j] := List.getElem?_eq_getElem hj
      exact ⟨z, (j : Int), _, rfl, rfl, zs, atI_nat hx, q _ H1 (List.getElem_mem hj) D1 dn1⟩
end
end Dt
namespace Dt
open PySem PySem.Spec PyProof.Rows L2 L2X
open SX (S)
theorem map_at2 {α : Type} {f : α → V} {l : List α} {i : Nat} {x : V} (h : (l.map f)[i]? = some x) : ∃ a, l[i]? = some a ∧ x = f a := by
  rw [List.getElem?_map] at h
  cases e : l[i]? with
  | none =>
    rw [e] at h
    cases h
  | some z =>
    rw [e] at h
    exact ⟨z, rfl, (Option.some.inj h).symm⟩
abbrev sPc : Stmt := topS 51
abbrev nPc : List Str := ["draw", "high", "wide", "dense", "rows", "row", "column"]
theorem scPc : FnScope nPc ["draw", "high", "wide", "dense"] (defScope sPc) := ⟨rfl, rfl, rfl, by decide +kernel, rfl, by decide +kernel, by decide +kernel⟩
def spPc : Sp := fun vs H Q _ => ∃ (d : Addr) (high wide n : Nat) (dense : Int), vs = [.ref d, .int high, .int wide, .int dense] ∧ Du H d n ∧ n + 20000 ≤ fuel ∧ 1 ≤ high ∧ high ≤ 60 ∧ 1 ≤ wide ∧ wide ≤ 120 ∧
  ∀ (p : Addr) (rs : List (List Nat)) (H' : Hp), PicR high wide rs → H p = none → H' p = some (.tup (rs.map rv)) → Du H' d (n + 20000) → Do d H H' → Q (.ref p) H'
abbrev sNr : Stmt := topS 52
abbrev nNr : List Str := ["draw", "picture", "rows", "turn", "at", "column", "row"]
theorem scNr : FnScope nNr ["draw", "picture"] (defScope sNr) := ⟨rfl, rfl, rfl, by decide +kernel, rfl, by decide +kernel, by decide +kernel⟩
def spNr : Sp := fun vs H Q _ => ∃ (d a : Addr) (high wide n : Nat) (rs : List (List Nat)), vs = [.ref d, .ref a] ∧ Du H d n ∧ n + 10 ≤ fuel ∧ H a = some (.tup (rs.map rv)) ∧ PicR high wide rs ∧
  ∀ (p : Addr) (rs' : List (List Nat)) (H' : Hp), PicR high wide rs' → H p = none → H' p = some (.tup (rs'.map rv)) → Du H' d (n + 10) → Do d H H' → Q (.ref p) H'
theorem Grid.dn {H H' : Hp} {d g : Addr} {as : List Addr} {ls : List (List Nat)} (G : Grid H g as ls) (s : Do d H H') (ng : g ≠ d) (na : ∀ a ∈ as, a ≠ d) : Grid H' g as ls :=
  ⟨s _ _ G.top ng, G.len, fun i a l h1 h2 => s _ _ (G.row i a l h1 h2) (na a (List.mem_of_getElem? h1)), G.nd, G.off⟩
/-- rows under work, new since H0, the drawing list at d -/
structure GridD (d : Addr) (H0 H : Hp) (g : Addr) (as : List Addr) (ls : List (List Nat)) : Prop where
  gr : Grid H g as ls
  sm : Do d H0 H
  ng : H0 g = none
  nr : ∀ a ∈ as, H0 a = none
  gd : g ≠ d
  ad : ∀ a ∈ as, a ≠ d
theorem GridD.dn {d : Addr} {H0 H H' : Hp} {g : Addr} {as : List Addr} {ls : List (List Nat)} (G : GridD d H0 H g as ls) (s : Do d H H') : GridD d H0 H' g as ls := ⟨G.gr.dn s G.gd G.ad, G.sm.trans s, G.ng, G.nr, G.gd, G.ad⟩
theorem GridD.put {d : Addr} {H0 H : Hp} {g a : Addr} {as : List Addr} {ls : List (List Nat)} {r c x : Nat} {l : List Nat} (G : GridD d H0 H g as ls) (ha : as[r]? = some a) (hl : ls[r]? = some l) : GridD d H0 (upd H a (.lst ((l.map ch).set c (ch x)))) g as (ls.set r (l.set c x)) :=
  ⟨G.gr.put ha hl, G.sm.upd (G.nr a (List.mem_of_getElem? ha)), G.ng, G.nr, G.gd, G.ad⟩
theorem GridD.same' {d : Addr} {H0 H : Hp} {g E : Addr} {as : List Addr} {ls : List (List Nat)} {ys : List V} (G : GridD d H0 H g as ls) (n1 : g ≠ E) (n2 : ∀ a ∈ as, a ≠ E) (n3 : H0 E = none) : GridD d H0 (upd H E (.lst ys)) g as ls :=
  ⟨⟨by rw [upd_ne n1]; exact G.gr.top, G.gr.len, fun i a l h1 h2 => by rw [upd_ne (n2 a (List.mem_of_getElem? h1))]; exact G.gr.row i a l h1 h2, G.gr.nd, G.gr.off⟩, G.sm.upd n3, G.ng, G.nr, G.gd, G.ad⟩
theorem Grid.none {H : Hp} {g E : Addr} {as : List Addr} {ls : List (List Nat)} (G : Grid H g as ls) (hE : H E = none) : g ≠ E ∧ ∀ a ∈ as, a ≠ E := by
  refine ⟨fun e => ?_, fun a ha e => ?_⟩
  · have n1 := G.top
    rw [e, hE] at n1
    cases n1
  · subst e
    obtain ⟨j, hj⟩ := List.mem_iff_getElem?.mp ha
    have hlt : j < ls.length := by
      rw [← G.len]
      exact (List.getElem?_eq_some_iff.mp hj).1
    have n1 := G.row j _ _ hj (List.getElem?_eq_getElem hlt)
    rw [hE] at n1
    cases n1
theorem RowsR.put {high wide r c x : Nat} {ls : List (List Nat)} {l : List Nat} (R : RowsR high wide ls) (hl : ls[r]? = some l) (hx : x = 35 ∨ x = 46) : RowsR high wide (ls.set r (l.set c x)) := by
  refine ⟨by rw [List.length_set, R.len], fun m hm => ?_⟩
  rcases List.mem_or_eq_of_mem_set hm with q | q
  · exact R.row m q
  · subst q
    have rl := R.row l (List.mem_of_getElem? hl)
    refine ⟨by rw [List.length_set, rl.len], fun y hy => ?_⟩
    rcases List.mem_or_eq_of_mem_set hy with q2 | q2
    · exact rl.sg y q2
    · rw [q2]
      exact hx
theorem dot_hash (b : Bool) : ∃ c : Nat, (c = 35 ∨ c = 46) ∧ atI (".#" : Str).cps.toList (if b = true then 1 else 0) = some c := by
  cases b with
  | true => exact ⟨35, .inl rfl, by decide +kernel⟩
  | false => exact ⟨46, .inr rfl, by decide +kernel⟩
section
variable {P : Program} {w : World} {K : PySem.W.Frag} {mg : Str → Option Value} {base : Heap}
theorem ok_pc {f : Addr} {fd : FuncData} {k : Nat} (F : Fun K "_law_picture" "_law_picture" sPc f fd) (T : Tx mg) (GN : Pm P w K mg base CX0 (k + 1) "_law_next" ["draw", "below"] spNx) : FnOk P w K mg base CX0 (k + 2) f fd ["draw", "high", "wide", "dense"] spPc := by
  obtain ⟨fN, fdN, GN, mN, kN, bN⟩ := GN.ex
  refine F.ok scPc (fun vs H Q E h => ?_) (fun cdv A outer s H vs Q E hr h => ?_)
  · obtain ⟨d, high, wide, n, dense, rfl, _⟩ := h
    rfl
  · obtain ⟨d, high, wide, n, dense, rfl, D, hn, h0, h1, w0, w1, q⟩ := h
    have nd := scPc.nd
    refine ⟨_, pss_cons (ps_set (i := 4) nd rfl (.inl rfl) (pe_lst pa_nil))
      (pss_cons (ps_for PassesOwn.never rfl (pi_range1 rfl T.range (pa_cons (pv 1) pa_nil)) (pg_name (i := 5) nd rfl (.inl rfl))
        (pss_one (ps_expr (pe_bm PySem.F.plainAttrs_list PySem.F.slot_list_append PySem.F.type_list_append mt_append (pv 4) (pa_cons (pe_join pe_str (pe_lc (own := [("column", 6)]) (g := gName 6) (tt := tYes) rfl nd (pi_range1 rfl T.range (pa_cons (pv 2) pa_nil)) (blkOk_by (N := nPc) (sc := defScope sPc) (by decide +kernel)) (fun _ _ _ _ _ => pg_name (i := 6) nd rfl (Or.inl rfl)) (fun _ _ _ _ _ => pts_nil)
            (fun _ _ _ _ _ => pe_ix ix_str pe_str (pe_callTy call_int1 (by rfl) T.int (by decide +kernel) (pa_cons (pe_cmpR op_lt (pe_call GN hr (by rfl) mN kN bN .nil pass0 (pa_cons (pv 0) (pa_cons pe_int pa_nil))) (pv 3) (nomark _)) pa_nil)) (fun _ _ => rfl)))) pa_nil)))))
      (pss_one (ps_ret (pe_callTy call_tuple_of (by rfl) T.tuple (by decide +kernel) (pa_cons (pv 4) pa_nil))))), ?_⟩
    have b1 : (-(2 ^ 62) : Int) ≤ (high : Int) ∧ (high : Int) < 2 ^ 62 := ⟨by omega, by omega⟩
    have b2 : (-(2 ^ 62) : Int) ≤ (wide : Int) ∧ (wide : Int) < 2 ^ 62 := ⟨by omega, by omega⟩
    refine ⟨by show 0 ≤ sizeLine; decide, fun l hl => ?_⟩
    have sl := same_upd (o := .lst []) hl
    have nld := D.new hl
    refine ⟨.int high, rfl, high, rfl, b1.1, b1.2, for_range (lo := 0) (n := high) (fun i σ H2 => ∃ (y5 : Option V) (rs : List (List Nat)), σ = [some (.ref d), some (.int high), some (.int wide), some (.int dense), some (.ref l), y5, none] ∧ rs.length = i ∧ (∀ r ∈ rs, RowR wide r) ∧ H2 l = some (.lst (rs.map rv)) ∧ Du H2 d (n + 200 * i) ∧ Do d H H2)
      ⟨none, [], rfl, rfl, (fun _ h => nomatch h), upd_same, (D.same sl).le (by omega), Do.same sl⟩ ?_ ?_⟩
    · rintro i σ H2 hi ⟨y5, rs, rfl, hrl, hrow, h2l, D2, dn2⟩
      refine ⟨.ref l, rfl, .inl ⟨rfl, _, SqL.of h2l⟩, ⟨_, rfl⟩, .int wide, rfl, wide, rfl, b2.1, b2.2, fun Dd hDd => lc_range (lo := 0) (n := wide) (fun j H3 => ∃ cs : List Nat, cs.length = j ∧ (∀ c ∈ cs, c = 35 ∨ c = 46) ∧ H3 Dd = some (.lst (cs.map fun c => rv [c])) ∧ H3 l = some (.lst (rs.map rv)) ∧ Du H3 d (n + 200 * i + j) ∧ Do d H H3) ?_ ?_ ?_⟩
      · have sD := same_upd (o := .lst []) hDd
        exact ⟨[], rfl, (fun _ h => nomatch h), upd_same, sD _ _ h2l, D2.same sD, dn2.trans (Do.same sD)⟩
      · rintro j H3 hj ⟨cs, hcl, hcs, h3D, h3l, D3, dn3⟩
        have nDd := D2.new hDd
        have fu : n + 20000 ≤ 1000000000000 := hn
        refine ⟨rfl, .ref d, rfl, d, 10, _, rfl, D3, (by show _ ≤ 1000000000000; omega), by decide, by decide, fun m H4 m0 m1 D4 dn4 => ⟨.int dense, rfl, m, dense, rfl, rfl, .inr ⟨_, rfl, ?_⟩⟩⟩
        obtain ⟨c, hc, hat⟩ := dot_hash (decide (m < dense))
        refine ⟨".#", _, c, rfl, rfl, by decide +kernel, hat, ?_⟩
        have h4D := dn4 _ _ h3D nDd
        have h4l := dn4 _ _ h3l nld
        have nDl : Dd ≠ l := (ne_of_none h2l hDd).symm
        refine ⟨_, h4D, ?_, cs ++ [c], ?_, ?_, ?_, ?_, ?_, ?_⟩
        · rw [List.length_map]
          exact small1000 (by omega)
        · rw [List.length_append, hcl]
          rfl
        · intro y hy
          rcases List.mem_append.mp hy with z | z
          · exact hcs y z
          · rw [List.mem_singleton.mp z]
            exact hc
        · rw [upd_same, List.map_append]
          rfl
        · rw [upd_ne nDl.symm]
          exact h4l
        · exact D4.upd nDd
        · exact (dn3.trans dn4).upd (dn2.nn D2 hDd)
      · rintro H3 ⟨cs, hcl, hcs, h3D, h3l, D3, dn3⟩
        have rowcs : RowR wide cs := ⟨hcl, hcs⟩
        refine ⟨"", Dd, cs.map fun c => S [c], rfl, rfl, .inl (SqL.of ?_), ?_, ?_⟩
        · rw [h3D, List.map_map]
          rfl
        · rw [lens_ones]
          show cs.length + _ * 0 ≤ 16777216
          omega
        · rw [join_ones]
          refine ⟨l, _, _, rfl, rfl, h3l, ?_, ?_⟩
          · rw [List.length_map]
            exact small1000 (by omega)
          · refine ⟨_, rs ++ [cs], rfl, ?_, ?_, ?_, ?_, ?_⟩
            · rw [List.length_append, hrl]
              rfl
            · intro y hy
              rcases List.mem_append.mp hy with z | z
              · exact hrow y z
              · rw [List.mem_singleton.mp z]
                exact rowcs
            · rw [upd_same, List.map_append]
              rfl
            · exact (D3.upd nld).le (by omega)
            · exact dn3.upd hl
    · rintro σ H2 ⟨y5, rs, rfl, hrl, hrow, h2l, D2, dn2⟩
      refine ⟨.ref l, rfl, l, _, rfl, .inl ⟨SqL.of h2l, fun p hp => ?_⟩⟩
      have sp := same_upd (o := .tup (rs.map rv)) hp
      exact q p rs _ ⟨hrl, hrow, h0, h1, w0, w1⟩ (dn2.nn D2 hp) upd_same ((D2.same sp).le (by omega)) (dn2.trans (Do.same sp))
theorem ok_nr {f : Addr} {fd : FuncData} {k : Nat} (F : Fun K "_law_near" "_law_near" sNr f fd) (T : Tx mg) (GN : Pm P w K mg base CX0 (k + 1) "_law_next" ["draw", "below"] spNx) : FnOk P w K mg base CX0 (k + 2) f fd ["draw", "picture"] spNr := by
  obtain ⟨fN, fdN, GN, mN, kN, bN⟩ := GN.ex
  refine F.ok scNr (fun vs H Q E h => ?_) (fun cdv A outer s H vs Q E hr h => ?_)
  · obtain ⟨d, a, high, wide, n, rs, rfl, _⟩ := h
    rfl
  · obtain ⟨d, a, high, wide, n, rs, rfl, D, hn, ha, pr, k⟩ := h
    have nd := scNr.nd
    refine ⟨_, pss_cons (ps_setLc (i := 2) (own := [("row", 6)]) (g := gName 6) (tt := tYes) (by rfl) nd rfl rfl (sw_true rfl rfl rfl (by decide +kernel)) (pi_tup (pv 1)) (blkOk_by (N := nNr) (sc := defScope sNr) (by decide +kernel)) (fun _ _ _ _ _ => pg_name (i := 6) nd rfl (Or.inl rfl)) (fun _ _ _ _ _ => pts_nil)
          (fun _ _ _ _ _ => pe_callTy (call_listS rfl) (by rfl) T.list (by decide +kernel) (pa_cons (pv 6) pa_nil)))
      (pss_cons (ps_for PassesOwn.never rfl (pi_range1 rfl T.range (pa_cons (pe_op op_add pe_int (pe_call GN hr (by rfl) mN kN bN .nil pass0 (pa_cons (pv 0) (pa_cons pe_int pa_nil)))) pa_nil)) (pg_name (i := 3) nd rfl (.inl rfl))
        (pss_cons (ps_par (i := 4) (j := 5) (by rfl) nd rfl rfl (by decide) rfl rfl (pa_cons (pe_call GN hr (by rfl) mN kN bN .nil pass0 (pa_cons (pv 0) (pa_cons (pe_callB call_len_seq (by rfl) T.len PySem.boot_len (pa_cons (pv 2) pa_nil)) pa_nil))) (pa_cons (pe_call GN hr (by rfl) mN kN bN .nil pass0 (pa_cons (pv 0) (pa_cons (pe_callB call_len_seq (by rfl) T.len PySem.boot_len (pa_cons (pe_ix ix_list (pv 2) pe_int (fun _ _ => rfl)) pa_nil)) pa_nil))) pa_nil)) (by rfl))
        (pss_one (ps_asg (pe_ifExp (pt_cmpR op_eq (pe_ix ix_list (pe_ix ix_list (pv 2) (pv 4) (fun _ _ => rfl)) (pv 5) (fun _ _ => rfl)) pe_str (nomark _)) pe_str pe_str) (pg_sub (pe_ix ix_list (pv 2) (pv 4) (fun _ _ => rfl)) (pv 5) set_list)))))
      (pss_one (ps_ret (pe_callTy call_tuple_of (by rfl) T.tuple (by decide +kernel) (pa_cons (pe_lc (own := [("row", 6)]) (g := gName 6) (tt := tYes) rfl nd (pi_list (pv 2)) (blkOk_by (N := nNr) (sc := defScope sNr) (by decide +kernel)) (fun _ _ _ _ _ => pg_name (i := 6) nd rfl (Or.inl rfl)) (fun _ _ _ _ _ => pts_nil)
          (fun _ _ _ _ _ => pe_joinK (K := K) rfl pe_str (pv 6))) pa_nil))))), ?_⟩
    have fu : n + 10 ≤ 1000000000000 := hn
    refine ⟨.ref a, rfl, a, rfl, ⟨_, SqT.of ha⟩, fun G hG => lc_tup (K := K) (a := a) (xs := rs.map rv) (fun i H2 => ∃ as, GridN H H2 G as (rs.take i)) ?_ (fun i H2 _ z => ?_) ?_ ?_⟩
    · exact ⟨[], ⟨upd_same, rfl, (fun i a l h => nomatch h), List.nodup_nil, (fun h => nomatch h)⟩, same_upd hG, hG, (fun a h => nomatch h)⟩
    · obtain ⟨as, G⟩ := z
      exact SqT.of (G.sm _ _ ha)
    · rintro i x H2 hi ⟨as, G⟩
      obtain ⟨l, hl, rfl⟩ := map_at2 hi
      have l1 := (pr.row l (List.mem_of_getElem? hl)).len
      have w1 := pr.w1
      have h1' := pr.h1
      have hil : i < rs.length := (List.getElem?_eq_some_iff.mp hl).1
      rw [pr.len] at hil
      refine ⟨rfl, rv l, rfl, S l, rfl, ?_, fun b hb => ?_⟩
      · show l.length ≤ sizeLine
        exact Nat.le_of_lt (small1000 (by omega))
      · rw [chars_row]
        refine ⟨as.map V.ref, ?_, ?_, as ++ [b], ?_⟩
        · rw [upd_ne (ne_of_none G.gr.top hb)]
          exact G.gr.top
        · rw [List.length_map, G.gr.len, List.length_take]
          exact small1000 (by omega)
        · rw [take_snoc hl]
          exact G.add hb
    · rintro H3 ⟨as, Gn⟩
      rw [List.length_map, List.take_length] at Gn
      have D3 := D.same Gn.sm
      have nof : ∀ p, H p = none → p ≠ d := fun p hp => D.new hp
      have Gd : GridD d H H3 G as rs := ⟨Gn.gr, Do.same Gn.sm, Gn.ng, Gn.nr, nof _ Gn.ng, fun b hb => nof _ (Gn.nr b hb)⟩
      refine ⟨.ref d, rfl, d, 2, n, rfl, D3, (by show n ≤ 1000000000000; omega), by decide, by decide, fun m H4 m0 m1 D4 dn4 => ⟨1, m, rfl, rfl, _, rfl, by omega, by omega, ?_⟩⟩
      obtain ⟨t, rfl⟩ := Int.eq_ofNat_of_zero_le m0
      have et : (1 + (t : Int)) = ((1 + t : Nat) : Int) := by omega
      rw [et]
      refine for_range (lo := 0) (n := 1 + t) (fun i σ H5 => ∃ (y3 y4 y5 : Option V) (ls : List (List Nat)), σ = [some (.ref d), some (.ref a), some (.ref G), y3, y4, y5, none] ∧ GridD d H H5 G as ls ∧ RowsR high wide ls ∧ Du H5 d (n + 1 + 2 * i)) ⟨none, none, none, rs, rfl, Gd.dn dn4, pr.rows, D4⟩ ?_ ?_
      · rintro i σ H5 hi ⟨y3, y4, y5, ls, rfl, G5, R5, D5⟩
        have lh : as.length = high := by rw [G5.gr.len, R5.len]
        have hh0 := pr.h0
        have ww0 := pr.w0
        refine ⟨.ref d, rfl, .ref G, rfl, G, _, rfl, .inl (SqL.of G5.gr.top), d, _, _, rfl, D5, (by show _ ≤ 1000000000000; omega), ?_, ?_, fun r H6 r0 r1 D6 dn6 => ?_⟩
        · rw [List.length_map, lh]
          omega
        · rw [List.length_map, lh]
          have := pr.h1
          omega
        rw [List.length_map, lh] at r1
        obtain ⟨r, rfl⟩ := Int.eq_ofNat_of_zero_le r0
        have G6 := G5.dn dn6
        have h0' : 0 < ls.length := by rw [R5.len]; omega
        have e00 : ls[0]? = some ls[0] := List.getElem?_eq_getElem h0'
        have a00 : as[0]? = some (as[0]'(by omega)) := List.getElem?_eq_getElem (by omega)
        have row0 := G6.gr.row 0 _ _ a00 e00
        have len0 := (R5.row _ (List.mem_of_getElem? e00)).len
        refine ⟨.ref d, rfl, .ref G, rfl, G, _, 0, .ref (as[0]'(by omega)), rfl, rfl, SqL.of G6.gr.top, atI_nat (j := 0) (by rw [List.getElem?_map, a00]; rfl), _, _, rfl, .inl (SqL.of row0), d, _, _, rfl, D6, (by show _ ≤ 1000000000000; omega), ?_, ?_, fun c H7 c0 c1 D7 dn7 => ?_⟩
        · rw [List.length_map, len0]
          omega
        · rw [List.length_map, len0]
          have := pr.w1
          omega
        rw [List.length_map, len0] at c1
        obtain ⟨c, rfl⟩ := Int.eq_ofNat_of_zero_le c0
        have G7 := G6.dn dn7
        have hr1 : r < ls.length := by rw [R5.len]; omega
        have e1 : ls[r]? = some ls[r] := List.getElem?_eq_getElem hr1
        generalize ls[r] = l at e1
        have rl := R5.row l (List.mem_of_getElem? e1)
        have hc1 : c < l.length := by rw [rl.len]; omega
        have e2 : l[c]? = some l[c] := List.getElem?_eq_getElem hc1
        generalize l[c] = x at e2
        have ha1 : r < as.length := by omega
        have e3 : as[r]? = some as[r] := List.getElem?_eq_getElem ha1
        generalize as[r] = b at e3
        have hb := G7.gr.row _ b l e3 e1
        have i1 : atI (as.map V.ref) (r : Int) = some (.ref b) := atI_nat (by rw [List.getElem?_map, e3]; rfl)
        have i2 : atI (l.map ch) (c : Int) = some (ch x) := atI_nat (by rw [List.getElem?_map, e2]; rfl)
        refine ⟨_, _, rfl, .ref G, rfl, .int r, rfl, G, _, r, .ref b, rfl, rfl, SqL.of G7.gr.top, i1, .int c, rfl, b, _, c, ch x, rfl, rfl, SqL.of hb, i2, rfl, _, rfl, ?_⟩
        have fin : ∀ y, y = 35 ∨ y = 46 → GridD d H (upd H7 b (.lst ((l.map ch).set c (ch y)))) G as (ls.set r (l.set c y)) ∧ RowsR high wide (ls.set r (l.set c y)) ∧ Du (upd H7 b (.lst ((l.map ch).set c (ch y)))) d (n + 1 + 2 * (i + 1)) := fun y hy =>
          ⟨G7.put e3 e1, R5.put e1 hy, (D7.upd (G7.ad b (List.mem_of_getElem? e3))).le (by omega)⟩
        cases decide (ch x = V.str "#") with
        | true =>
          refine iteT ⟨.ref G, rfl, .int r, rfl, G, _, r, .ref b, rfl, rfl, SqL.of G7.gr.top, i1, .int c, rfl, b, _, c, c, rfl, rfl, hb, ixN_at (by rw [List.length_map]; exact hc1), _, _, _, ls.set r (l.set c 46), rfl, ?_⟩
          have z := fin 46 (.inr rfl)
          have e46 : ch 46 = V.str "." := by rw [s_dot]; rfl
          rw [e46] at z
          exact z
        | false =>
          refine iteF ⟨.ref G, rfl, .int r, rfl, G, _, r, .ref b, rfl, rfl, SqL.of G7.gr.top, i1, .int c, rfl, b, _, c, c, rfl, rfl, hb, ixN_at (by rw [List.length_map]; exact hc1), _, _, _, ls.set r (l.set c 35), rfl, ?_⟩
          have z := fin 35 (.inl rfl)
          have e35 : ch 35 = V.str "#" := by rw [s_hash]; rfl
          rw [e35] at z
          exact z
      · rintro σ H5 ⟨y3, y4, y5, ls, rfl, G5, R5, D5⟩
        refine ⟨.ref G, rfl, G, rfl, ⟨_, SqL.of G5.gr.top⟩, fun E hE => lc_list (K := K) (a := G) (xs := as.map V.ref) (fun i H6 => GridD d H H6 G as ls ∧ Du H6 d (n + 1 + 2 * (1 + t)) ∧ H6 E = some (.lst ((ls.take i).map rv))) ⟨?_, D5.same (same_upd hE), upd_same⟩ (fun i H6 _ z => SqL.of z.1.gr.top) ?_ ?_⟩
        · exact G5.dn (Do.same (same_upd hE))
        · rintro i x H6 hi ⟨G6, D6, h6⟩
          obtain ⟨b, hb, rfl⟩ := map_at2 hi
          have hil : i < ls.length := by
            rw [← G6.gr.len]
            exact (List.getElem?_eq_some_iff.mp hb).1
          have el : ls[i]? = some ls[i] := List.getElem?_eq_getElem hil
          generalize ls[i] = l at el
          have hrow := G6.gr.row i b l hb el
          have rl := R5.row l (List.mem_of_getElem? el)
          have w1 := pr.w1
          have h1' := pr.h1
          have ll := rl.len
          rw [R5.len] at hil
          have nE := G5.gr.none hE
          have nE0 : H E = none := G5.sm.nn D5 hE
          refine ⟨rfl, ⟨"", rfl⟩, .ref b, rfl, "", b, l.map fun c => (⟨#[c]⟩ : Str), rfl, rfl, .inl (SqL.of (hrow.trans (by rw [List.map_map]; rfl))), ?_, ?_⟩
          · rw [lens_rows]
            show l.length + _ * 0 ≤ 16777216
            omega
          · rw [join_row]
            refine ⟨_, h6, ?_, G6.same' nE.1 nE.2 nE0, D6.upd (nof _ nE0), ?_⟩
            · rw [List.length_map, List.length_take]
              exact small1000 (by omega)
            · rw [upd_same, take_snoc el, List.map_append]
              rfl
        · rintro H6 ⟨G6, D6, h6⟩
          have e5 : ls.take (as.map V.ref).length = ls := by
            rw [List.length_map, G6.gr.len, List.take_length]
          rw [e5] at h6
          refine ⟨E, _, rfl, .inl ⟨SqL.of h6, fun p hp => ?_⟩⟩
          have sp := same_upd (o := .tup (ls.map rv)) hp
          exact k p ls _ ⟨R5.len, R5.row, pr.h0, pr.h1, pr.w0, pr.w1⟩ (G6.sm.nn D6 hp) upd_same ((D6.same sp).le (by omega)) (G6.sm.trans (Do.same sp))
end
end Dt
namespace Dt
open PySem PySem.Spec PyProof.Rows L2 L2X
open SX (S)
/-! ### shapes as data -/
structure Sh where
  sg : Nat
  w : Nat
  rs : List (List Nat)
def ShAt (H : Hp) (x : V) (s : Sh) : Prop := ∃ t p, x = .ref t ∧ H t = some (.tup [ch s.sg, .ref p]) ∧ H p = some (.tup (s.rs.map rv))
structure Good (high wide : Nat) (s : Sh) : Prop where
  pic : PicR high s.w s.rs
  w8 : s.w ≤ wide
  s0 : 33 ≤ s.sg
  s1 : s.sg ≤ 126
  dot : ∃ l ∈ s.rs, 35 ∈ l
structure Shs (H : Hp) (xs : List V) (ss : List Sh) : Prop where
  len : xs.length = ss.length
  at_ : ∀ (i : Nat) (x : V) (s : Sh), xs[i]? = some x → ss[i]? = some s → ShAt H x s
structure Goods (high wide : Nat) (ss : List Sh) : Prop where
  all : ∀ s ∈ ss, Good high wide s
  nd : (ss.map (·.rs)).Nodup
theorem ShAt.same {H H' : Hp} {x : V} {s : Sh} (h : ShAt H x s) (sm : Same H H') : ShAt H' x s :=
  let ⟨t, p, e, h1, h2⟩ := h; ⟨t, p, e, sm _ _ h1, sm _ _ h2⟩
theorem ShAt.dn {H H' : Hp} {d : Addr} {n : Nat} {x : V} {s : Sh} (h : ShAt H x s) (D : Du H d n) (sm : Do d H H') : ShAt H' x s := by
  obtain ⟨t, p, e, h1, h2⟩ := h
  obtain ⟨a, b, c, hd, _⟩ := D
  exact ⟨t, p, e, sm _ _ h1 (ne_of h1 hd (by intro z; cases z)), sm _ _ h2 (ne_of h2 hd (by intro z; cases z))⟩
theorem ShAt.updl {H : Hp} {l : Addr} {ys zs : List V} {x : V} {s : Sh} (h : ShAt H x s) (hl : H l = some (.lst ys)) : ShAt (upd H l (.lst zs)) x s := by
  obtain ⟨t, p, e, h1, h2⟩ := h
  exact ⟨t, p, e, by rw [upd_ne (ne_of h1 hl (by intro z; cases z))]; exact h1, by rw [upd_ne (ne_of h2 hl (by intro z; cases z))]; exact h2⟩
section
variable {H H' : Hp} {xs : List V} {ss : List Sh}
theorem Shs.same (h : Shs H xs ss) (sm : Same H H') : Shs H' xs ss := ⟨h.len, fun i x s a b => (h.at_ i x s a b).same sm⟩
theorem Shs.dn {d : Addr} {n : Nat} (h : Shs H xs ss) (D : Du H d n) (sm : Do d H H') : Shs H' xs ss := ⟨h.len, fun i x s a b => (h.at_ i x s a b).dn D sm⟩
theorem Shs.updl {l : Addr} {ys zs : List V} (h : Shs H xs ss) (hl : H l = some (.lst ys)) : Shs (upd H l (.lst zs)) xs ss := ⟨h.len, fun i x s a b => (h.at_ i x s a b).updl hl⟩
theorem Shs.nil : Shs H [] [] := ⟨rfl, fun i x s h => nomatch h⟩
theorem Shs.add {x : V} {s : Sh} (h : Shs H xs ss) (a : ShAt H x s) : Shs H (xs ++ [x]) (ss ++ [s]) := by
  refine ⟨by rw [List.length_append, List.length_append, h.len]; rfl, fun i y s' hy hs => ?_⟩
  by_cases hi : i < xs.length
  · rw [List.getElem?_append_left hi] at hy
    rw [List.getElem?_append_left (by rw [← h.len]; exact hi)] at hs
    exact h.at_ i y s' hy hs
  · rw [List.getElem?_append_right (by omega)] at hy
    rw [List.getElem?_append_right (by rw [← h.len]; omega), ← h.len] at hs
    rcases hk : i - xs.length with _ | k
    · rw [hk] at hy hs
      cases hy
      cases hs
      exact a
    · rw [hk] at hy
      cases hy
end
theorem Goods.nil {high wide : Nat} : Goods high wide [] := ⟨(fun s h => nomatch h), List.nodup_nil⟩
theorem Goods.add {high wide : Nat} {ss : List Sh} {s : Sh} (h : Goods high wide ss) (g : Good high wide s) (nw : s.rs ∉ ss.map (·.rs)) : Goods high wide (ss ++ [s]) := by
  refine ⟨fun y hy => ?_, ?_⟩
  · rcases List.mem_append.mp hy with z | z
    · exact h.all y z
    · rw [List.mem_singleton.mp z]
      exact g
  · rw [List.map_append, List.nodup_append]
    refine ⟨h.nd, by simp, fun x hx y hy e => ?_⟩
    have : y = s.rs := by simpa using hy
    rw [← this, ← e] at nw
    exact nw hx
def sD (s : Sh) : PyData := .tuple [.str ⟨#[s.sg]⟩, .tuple (s.rs.map rD)]
def pDs (s : Sh) : PyData := .tuple (s.rs.map rD)
theorem dp_sh {K : PySem.W.Frag} {H : Hp} {x : V} {s : Sh} (h : ShAt H x s) : Dp K H x (sD s) := by
  obtain ⟨t, p, rfl, h1, h2⟩ := h
  exact .tup (SqT.of h1) (.cons (.str _) (.cons (.tup (SqT.of h2) (dp_rows _)) .nil))
theorem dp_shs {K : PySem.W.Frag} {H : Hp} : ∀ {xs : List V} {ss : List Sh}, Shs H xs ss → DpAll K H xs (ss.map sD)
  | [], [], _ => .nil
  | [], _ :: _, h => nomatch h.len
  | _ :: _, [], h => nomatch h.len
  | x :: xs, s :: ss, h => .cons (dp_sh (h.at_ 0 x s rfl rfl)) (dp_shs ⟨Nat.succ.inj h.len, fun i y q a b => h.at_ (i + 1) y q a b⟩)
theorem lay_sh {high wide : Nat} : ∀ ss : List Sh, (∀ s ∈ ss, Good high wide s) → PyData.canLayAll0 (ss.map sD) = true ∧ PyData.depthAll (ss.map sD) ≤ 3 ∧ PyData.canLayAll0 (ss.map pDs) = true ∧ PyData.depthAll (ss.map pDs) ≤ 3
  | [], _ => ⟨by simp [PyData.canLayAll0], by simp [PyData.depthAll], by simp [PyData.canLayAll0], by simp [PyData.depthAll]⟩
  | s :: r, h => by
    obtain ⟨h1, h2, h3, h4⟩ := lay_sh r fun m hm => h m (List.mem_cons_of_mem _ hm)
    have g := h s List.mem_cons_self
    obtain ⟨r1, r2⟩ := lay_rows s.rs fun l hl => (g.pic.row l hl).sg
    have so : PyData.strOk ⟨#[s.sg]⟩ = true := by
      unfold PyData.strOk
      have := g.s1
      simp
      omega
    refine ⟨?_, ?_, ?_, ?_⟩
    · rw [List.map_cons]
      simp [PyData.canLayAll0, PyData.canLay0, sD, h1, r1, so]
    · rw [List.map_cons]
      simp only [PyData.depthAll, PyData.depth, sD]
      omega
    · rw [List.map_cons]
      simp [PyData.canLayAll0, PyData.canLay0, pDs, h3, r1]
    · rw [List.map_cons]
      simp only [PyData.depthAll, PyData.depth, pDs]
      omega
theorem shaped_shs {high wide : Nat} {ss : List Sh} (h : ∀ s ∈ ss, Good high wide s) : SeqAt.shaped (.list (ss.map sD)) = true := by
  obtain ⟨h1, h2, _⟩ := lay_sh ss h
  unfold SeqAt.shaped
  rw [Bool.and_eq_true, decide_eq_true_iff]
  refine ⟨by simp [PyData.canLay0, h1], ?_⟩
  simp only [PyData.depth]
  omega
theorem shaped_pics {high wide : Nat} {ss : List Sh} (h : ∀ s ∈ ss, Good high wide s) : SeqAt.shaped (.list (ss.map pDs)) = true := by
  obtain ⟨_, _, h1, h2⟩ := lay_sh ss h
  unfold SeqAt.shaped
  rw [Bool.and_eq_true, decide_eq_true_iff]
  refine ⟨by simp [PyData.canLay0, h1], ?_⟩
  simp only [PyData.depth]
  omega
theorem eqv_rowsD : ∀ ls ms : List (List Nat), PyData.eqvAll (ls.map rD) (ms.map rD) = decide (ls = ms)
  | [], [] => by simp [PyData.eqvAll]
  | [], _ :: _ => by simp [PyData.eqvAll]
  | _ :: _, [] => by simp [PyData.eqvAll]
  | l :: r, m :: t => by
    rw [List.map_cons, List.map_cons, PyData.eqvAll, eqv_rowsD r t]
    have e : PyData.eqv (rD l) (rD m) = decide (l = m) := by
      show (S l == S m) = _
      exact SX.S_beq_eq
    rw [e]
    apply Bool.eq_iff_iff.mpr
    simp
theorem eqv_pics (ls ms : List (List Nat)) : PyData.eqv (.tuple (ls.map rD)) (.tuple (ms.map rD)) = decide (ls = ms) := by
  rw [← eqv_rowsD ls ms]
  simp [PyData.eqv]
theorem any_pics (ss : List Sh) (ls : List (List Nat)) : ((ss.map pDs).any fun z => PyData.eqv z (.tuple (ls.map rD))) = decide (ls ∈ ss.map (·.rs)) := by
  apply Bool.eq_iff_iff.mpr
  rw [List.any_eq_true, decide_eq_true_iff]
  constructor
  · rintro ⟨z, hz, e⟩
    obtain ⟨s, hs, rfl⟩ := List.mem_map.mp hz
    have e2 : PyData.eqv (.tuple (s.rs.map rD)) (.tuple (ls.map rD)) = true := e
    rw [eqv_pics, decide_eq_true_iff] at e2
    rw [← e2]
    exact List.mem_map.mpr ⟨s, hs, rfl⟩
  · intro h
    obtain ⟨s, hs, e⟩ := List.mem_map.mp h
    refine ⟨pDs s, List.mem_map.mpr ⟨s, hs, rfl⟩, ?_⟩
    show PyData.eqv (.tuple (s.rs.map rD)) (.tuple (ls.map rD)) = true
    rw [eqv_pics, e, decide_eq_true rfl]
/-! ### texts -/
theorem joinL_nil : ∀ ls : List (List Nat), TL.joinL [] ls = ls.flatten
  | [] => rfl
  | [c] => by
    show c = c ++ []
    rw [List.append_nil]
  | c :: d :: r => by
    show c ++ ([] ++ TL.joinL [] (d :: r)) = _
    rw [joinL_nil (d :: r)]
    rfl
theorem join_flat (ls : List (List Nat)) : Txt.join "" (ls.map S) = S ls.flatten := by
  rw [s_empty, SX.join_S, joinL_nil]
theorem lens_flat : ∀ {ls : List (List Nat)} {w : Nat}, (∀ l ∈ ls, l.length = w) → ((ls.map S).map (·.length)).sum = ls.length * w
  | [], w, _ => by simp
  | l :: r, w, h => by
    rw [List.map_cons, List.map_cons, List.sum_cons, lens_flat fun m hm => h m (List.mem_cons_of_mem _ hm), SX.S_len, h l List.mem_cons_self, List.length_cons, Nat.add_mul, Nat.one_mul, Nat.add_comm]
theorem cutS_to (l : List Nat) (n : Nat) : cutS (S l) none (some (n : Int)) = S (l.take n) := by
  unfold cutS
  rw [SX.S_len, HT.sIx_nat]
  have e0 : HT.sIx l.length 0 none = 0 := rfl
  rw [e0, Nat.sub_zero]
  show S (((S l).cps.toList.drop 0).take (min n l.length)) = _
  have e1 : (S l).cps.toList = l := by simp [S]
  rw [e1, List.drop_zero]
  congr 1
  by_cases h : n ≤ l.length
  · rw [Nat.min_eq_left h]
  · rw [Nat.min_eq_right (by omega), List.take_length, List.take_of_length_le (by omega)]
theorem gap_ok {g : Nat} (h : g ≤ 120) : MulOk "." (g : Int) ∧ Txt.mul "." (g : Int) = S (List.replicate g 46) := by
  rw [s_dot]
  rcases Nat.eq_zero_or_pos g with e | e
  · subst e
    refine ⟨⟨by decide, fun n => absurd (by decide) n, fun n => absurd (by decide) n⟩, ?_⟩
    unfold Txt.mul
    rw [if_pos (by decide)]
    rfl
  · exact ⟨mul_ok 46 g e h, mul_sign 46 g e⟩
theorem has_dot {rs : List (List Nat)} (h : 35 ∈ rs.flatten) : ∃ l ∈ rs, 35 ∈ l := by
  obtain ⟨l, hl, hm⟩ := List.mem_flatten.mp h
  exact ⟨l, hl, hm⟩
end Dt
namespace L2X
open PySem PySem.Spec PyProof.Rows L2
theorem op_eqDK {X : Cx} {K : PySem.W.Frag} (hK : X.K = K) (hu : X.A.units + 64 < cLine) : OpR X (compareOp .Eq) (rEqD K) := by
  subst hK
  exact op_eqD hu
end L2X
namespace Dt
open PySem PySem.Spec PyProof.Rows L2 L2X
open SX (S)
theorem passX0 {X : Cx} : Passes (L2.CX X.prog X.w) X E0 := fun _ _ _ _ _ _ _ h => by
  obtain ⟨_, _, _, _, _, _, _, _, _, _, _, _, z⟩ := h
  exact z.elim
/-! ### an alphabet as it stands, made of what is right -/
theorem ahs : ¬ (("_high" : Str) = "_shapes") := by decide +kernel
def aF (h : Int) (t : Addr) : List (Str × V) := putF "_shapes" (.ref t) (putF "_high" (.int h) [])
theorem aF_eq (h : Int) (t : Addr) : aF h t = ([("_high", V.int h), ("_shapes", V.ref t)] : List (Str × V)) := by
  show (if ("_high" : Str) = "_shapes" then [(("_high" : Str), V.ref t)] else (("_high" : Str), V.int h) :: putF "_shapes" (V.ref t) []) = ([("_high", V.int h), ("_shapes", V.ref t)] : List (Str × V))
  rw [if_neg ahs]
  all_goals rfl
theorem aF_high (h : Int) (t : Addr) : (aF h t).lookup ("_high" : Str) = some (.int h) := by
  unfold aF
  rw [lookup_putF, if_neg ahs, lookup_putF, if_pos rfl]
theorem aF_shapes (h : Int) (t : Addr) : (aF h t).lookup ("_shapes" : Str) = some (.ref t) := by
  unfold aF
  rw [lookup_putF, if_pos rfl]
theorem aF_no (h : Int) (t : Addr) {m : Str} (h1 : ¬ m = "_shapes") (h2 : ¬ m = "_high") : (aF h t).lookup m = none := by
  unfold aF
  rw [lookup_putF, if_neg h1, lookup_putF, if_neg h2]
  rfl
def AlpAt (C : Addr) (H : Hp) (o : Addr) (high : Nat) (ss : List Sh) : Prop := ∃ dx t xs, H o = some (.ins C dx (aF high t)) ∧ H t = some (.tup xs) ∧ Shs H xs ss
theorem AlpAt.same {C : Addr} {H H' : Hp} {o : Addr} {high : Nat} {ss : List Sh} (h : AlpAt C H o high ss) (s : Same H H') : AlpAt C H' o high ss :=
  let ⟨dx, t, xs, h1, h2, h3⟩ := h; ⟨dx, t, xs, s _ _ h1, s _ _ h2, h3.same s⟩
/-- what is asked of the class -/
structure Tal (K : PySem.W.Frag) (mg : Str → Option Value) (C : Addr) : Prop where
  cl : Cls K C
  nH : NoAttr K C "_high"
  nS : NoAttr K C "_shapes"
  mC : mg "Alphabet" = some (.ref C)
/-- a method with its promise -/
structure Mm (P : Program) (w : World) (K : PySem.W.Frag) (mg : Str → Option Value) (base : Heap) (k : Nat) (C : Addr) (m : Str) (ps : List Str) (sp : Sp) : Prop where
  ex : ∃ f fd, FnOk P w K mg base CX0 k f fd ps sp ∧ Meth K C m f ∧ Binds K fd ps []
abbrev cAl : Stmt := topS 43
abbrev sSg : Stmt := topS 44
theorem scSg : FnScope ["thing"] ["thing"] (defScope sSg) := ⟨rfl, rfl, rfl, by decide +kernel, rfl, by decide +kernel, by decide +kernel⟩
def spSg : Sp := fun vs H Q _ => ∃ c, vs = [ch c] ∧ 33 ≤ c ∧ c ≤ 126 ∧ Q (.bl true) H
abbrev sIS : Stmt := topS 45
theorem scIS : FnScope ["thing", "high", "rows", "columns"] ["thing", "high"] (defScope sIS) := ⟨rfl, rfl, rfl, by decide +kernel, rfl, by decide +kernel, by decide +kernel⟩
def spIS : Sp := fun vs H Q _ => ∃ (x : V) (high : Nat) (s : Sh), vs = [x, .int high] ∧ ShAt H x s ∧ Good high 8 s ∧ ∀ H', Same H H' → Q (.bl true) H'
abbrev sIPO : Stmt := topS 46
theorem scIPO : FnScope ["picture", "shapes", "shape"] ["picture", "shapes"] (defScope sIPO) := ⟨rfl, rfl, rfl, by decide +kernel, rfl, by decide +kernel, by decide +kernel⟩
def spIPO : Sp := fun vs H Q _ => ∃ (a l : Addr) (high wide w2 : Nat) (rs : List (List Nat)) (xs : List V) (ss : List Sh), vs = [.ref a, .ref l] ∧ H a = some (.tup (rs.map rv)) ∧ RowsR high wide rs ∧ H l = some (.lst xs) ∧ Shs H xs ss ∧ (∀ s ∈ ss, Good high w2 s) ∧ ss.length ≤ 100 ∧ ∀ H', Same H H' → Q (.bl (decide (rs ∈ ss.map (·.rs)))) H'
theorem lt1 (a b : Nat) : decide ([a] < [b]) = decide (a < b) := by
  apply Bool.eq_iff_iff.mpr
  rw [decide_eq_true_iff, decide_eq_true_iff]
  exact List.cons_lt_cons_iff.trans (by simp)
theorem rowDots_ne {r : Nat} {l : List Nat} (h : 35 ∈ l) : rowDots r l ≠ [] := by
  obtain ⟨j, hj⟩ := List.mem_iff_getElem?.mp h
  intro e
  have hm : (35, j) ∈ l.zipIdx := List.mk_mem_zipIdx_iff_getElem?.mpr hj
  have : (r, j) ∈ rowDots r l := List.mem_map.mpr ⟨(35, j), List.mem_filter.mpr ⟨hm, by simp⟩, rfl⟩
  rw [e] at this
  cases this
theorem dotsP_pos {rs : List (List Nat)} (h : ∃ l ∈ rs, 35 ∈ l) : 0 < (dotsP rs).length := by
  obtain ⟨l, hl, hd⟩ := h
  obtain ⟨i, hi⟩ := List.mem_iff_getElem?.mp hl
  refine List.length_pos_iff.mpr fun e => ?_
  have hm : (l, i) ∈ rs.zipIdx := List.mk_mem_zipIdx_iff_getElem?.mpr hi
  unfold dotsP at e
  have := List.flatten_eq_nil_iff.mp e (rowDots i l) (List.mem_map.mpr ⟨(l, i), hm, rfl⟩)
  exact rowDots_ne hd this
section
variable {P : Program} {w : World} {K : PySem.W.Frag} {mg : Str → Option Value} {base : Heap} {C CA : Addr}
theorem ok_sg {f : Addr} {fd : FuncData} {k : Nat} (F : Fun K "is_sign" "is_sign" sSg f fd) (T : Tx mg) (GT : Pm P w K mg base CX0 (k + 1) "is_text" ["thing"] (spIsText K)) : FnOk P w K mg base CX0 (k + 2) f fd ["thing"] spSg := by
  obtain ⟨fT, fdT, GT, mT, kT, bT⟩ := GT.ex
  refine F.ok scSg (fun vs H Q E h => ?_) (fun cdv A outer s H vs Q E hr h => ?_)
  · obtain ⟨c, rfl, _⟩ := h
    rfl
  · obtain ⟨c, rfl, c0, c1, q⟩ := h
    refine ⟨_, pss_one (ps_ret (pe_and (pe_call GT hr (by rfl) mT kT bT .nil pass0 (pa_cons (pv 0) pa_nil)) (pe_and (pe_cmpR op_eq (pe_callB call_len_str (by rfl) T.len PySem.boot_len (pa_cons (pv 0) pa_nil)) pe_int (nomark _)) (pe_one (pe_chain op_le_str op_le_str pe_str (pv 0) pe_str))))), ?_⟩
    refine ⟨ch c, rfl, ch c, rfl, kn_str2 (by show 1 ≤ sizeLine; decide), _, rfl, iteT ⟨ch c, rfl, ⟨#[c]⟩, rfl, (by show 1 ≤ sizeLine; decide), rfl, _, rfl, iteT ?_⟩⟩
    have e1 : ("!" : Str) = S [33] := by decide +kernel
    have e2 : ("~" : Str) = S [126] := by decide +kernel
    refine ⟨ch c, rfl, "!", ⟨#[c]⟩, rfl, rfl, _, rfl, ?_⟩
    have t1 : (!decide ((⟨#[c]⟩ : Str).cps.toList < ("!" : Str).cps.toList)) = true := by
      rw [e1]
      show (!decide ([c] < [33])) = true
      rw [lt1, decide_eq_false (by omega)]
      rfl
    have t2 : (!decide (("~" : Str).cps.toList < (⟨#[c]⟩ : Str).cps.toList)) = true := by
      rw [e2]
      show (!decide ([126] < [c])) = true
      rw [lt1, decide_eq_false (by omega)]
      rfl
    refine iteY t1 ⟨⟨#[c]⟩, "~", rfl, rfl, ?_⟩
    rw [t2]
    exact q
theorem ok_is {f : Addr} {fd : FuncData} {k : Nat} (F : Fun K "_is_shape" "_is_shape" sIS f fd) (T : Tx mg) (mw : ∃ t, mg "MOST_WIDE" = some (.int 8 t)) (GU : Pm P w K mg base CX0 (k + 1) "is_tuple" ["thing", "many"] (spIsTup K)) (GG : Pm P w K mg base CX0 (k + 1) "is_sign" ["thing"] spSg)
    (GI : Pm P w K mg base CX0 (k + 1) "is_picture" ["thing"] (spIsPic K)) (GZ : GS P w K mg base C (k + 1)) (GD : Pm P w K mg base (L2.CX P w) (k + 1) "dots" ["picture"] (spDots K)) : FnOk P w K mg base CX0 (k + 2) f fd ["thing", "high"] spIS := by
  obtain ⟨fU, fdU, GU, mU, kU, bU⟩ := GU.ex
  obtain ⟨fG, fdG, GG, mG, kG, bG⟩ := GG.ex
  obtain ⟨fI, fdI, GI, mI, kI, bI⟩ := GI.ex
  obtain ⟨fZ, fdZ, GZ, mZ, kZ, bZ⟩ := GZ.ex
  obtain ⟨fD, fdD, GD, mD, kD, bD⟩ := GD.ex
  obtain ⟨tw, hmw⟩ := mw
  refine F.ok scIS (fun vs H Q E h => ?_) (fun cdv A outer s H vs Q E hr h => ?_)
  · obtain ⟨x, high, s, rfl, _⟩ := h
    rfl
  · obtain ⟨x, high, sh, rfl, ha, g, q⟩ := h
    have nd := scIS.nd
    refine ⟨_, pss_cons (ps_if (PW.pt (pw_or (pt_not (pt_val (pe_call GU hr (by rfl) mU kU bU .nil pass0 (pa_cons (pv 0) (pa_cons pe_int pa_nil))))) (pw_or (pt_not (pt_val (pe_call GG hr (by rfl) mG kG bG .nil pass0 (pa_cons (pe_ix (r := rIxT K) ix_tup (pv 0) pe_int (fun _ _ => rfl)) pa_nil)))) (pw_or1 (pt_not (pt_val (pe_call GI hr (by rfl) mI kI bI .nil pass0 (pa_cons (pe_ix (r := rIxT K) ix_tup (pv 0) pe_int (fun _ _ => rfl)) pa_nil))))))))
        (pss_one (ps_ret pe_bl)) pss_nil)
      (pss_cons (ps_asg (pe_call GZ hr (by rfl) mZ kZ bZ .nil passX0 (pa_cons (pe_ix (r := rIxT K) ix_tup (pv 0) pe_int (fun _ _ => rfl)) pa_nil)) (pg_tup rfl (pgs_cons (pg_name (i := 2) nd rfl (Or.inl rfl)) (pgs_cons (pg_name (i := 3) nd rfl (Or.inl rfl)) pgs_nil))))
      (pss_one (ps_ret (pe_and (pe_cmpR op_eq (pv 2) (pv 1) (nomark _)) (pe_and (pe_cmpR op_le (pv 3) (pe_glob (v := .int 8) (by rfl) hmw ⟨_, rfl⟩) (nomark _)) (pe_one (pe_cmpR op_gt (pe_callB call_len_seq (by rfl) T.len PySem.boot_len (pa_cons (pe_call GD hr (by rfl) mD kD bD .nil passX0 (pa_cons (pe_ix (r := rIxT K) ix_tup (pv 0) pe_int (fun _ _ => rfl)) pa_nil)) pa_nil)) pe_int (nomark _)))))))), ?_⟩
    obtain ⟨t, p, rfl, ht, hp⟩ := id ha
    refine ⟨.ref t, rfl, .ref t, 2, rfl, .inr ⟨t, _, rfl, SqT.of ht, _, rfl, iteF ?_⟩⟩
    refine ⟨.ref t, rfl, t, _, 0, ch sh.sg, rfl, rfl, SqT.of ht, rfl, sh.sg, rfl, g.s0, g.s1, _, rfl, iteF ?_⟩
    refine ⟨.ref t, rfl, t, _, 1, .ref p, rfl, rfl, SqT.of ht, rfl, .ref p, true, rfl, askPic g.pic hp, fun H1 s1 => ⟨_, rfl, iteF ?_⟩⟩
    have pz := picSize g.pic
    refine ⟨.ref t, rfl, t, _, 1, .ref p, rfl, rfl, SqT.of (s1 _ _ ht), rfl, .ref p, rfl, .inr ⟨p, _, rfl, SqT.of (s1 _ _ hp), kn_rows g.pic, picOk_pic g.pic, fun p3 H3 s3 n3 h3 => ?_⟩⟩
    rw [pz.1, pz.2] at h3
    have s13 := s1.trans s3
    refine ⟨p3, _, rfl, SqT.of h3, rfl, _, _, rfl, _, _, rfl, rfl, .int high, rfl, .int high, rfl, rfl, _, rfl, ?_⟩
    rw [decide_eq_true rfl]
    refine iteT ⟨.int sh.w, rfl, sh.w, 8, rfl, rfl, _, rfl, iteY (decide_eq_true (by have := g.w8; omega)) ?_⟩
    refine ⟨.ref t, rfl, t, _, 1, .ref p, rfl, rfl, SqT.of (s13 _ _ ht), rfl, p, high, sh.w, sh.rs, rfl, s13 _ _ hp, g.pic, fun D xs H4 s4 nD hD pl lx => ?_⟩
    have l0 : 0 < xs.length := by
      rw [pl.len]
      exact dotsP_pos g.dot
    refine ⟨D, xs, rfl, .inl (SqL.of hD), (xs.length : Int), 0, rfl, rfl, ?_⟩
    have e : (decide ((0 : Int) < (xs.length : Int))) = true := decide_eq_true (by omega)
    show Q (.bl (decide ((0 : Int) < (xs.length : Int)))) H4
    rw [e]
    exact q H4 (s13.trans s4)
theorem ok_ipo {f : Addr} {fd : FuncData} {k : Nat} (F : Fun K "_is_picture_of" "_is_picture_of" sIPO f fd) (an : mg "any" = none) : FnOk P w K mg base CX0 (k + 1) f fd ["picture", "shapes"] spIPO := by
  refine F.ok scIPO (fun vs H Q E h => ?_) (fun cdv A outer s H vs Q E hr h => ?_)
  · obtain ⟨a, l, _, _, _, _, _, _, rfl, _⟩ := h
    rfl
  · obtain ⟨a, l, high, wide, w2, rs, xs, ss, rfl, ha, R, hl, Ss, Gs, ls, q⟩ := h
    have nd := scIPO.nd
    refine ⟨_, pss_one (ps_ret (pe_callB (cr_any rfl) (by rfl) an (by decide +kernel) (pa_cons (pe_lc (own := [("shape", 2)]) (g := gName 2) (tt := tYes) rfl nd (pi_list (pv 1)) (blkOk_by (N := ["picture", "shapes", "shape"]) (sc := defScope sIPO) (by decide +kernel)) (fun _ _ _ _ _ => pg_name (i := 2) nd rfl (Or.inl rfl)) (fun _ _ _ _ _ => pts_nil)
        (fun _ _ _ _ _ => pe_cmpR (op_eqDK (K := K) rfl hr.units) (pv 0) (pe_ix (r := rIxT K) ix_tup (pv 2) pe_int (fun _ _ => rfl)) (nomark _))) pa_nil))), ?_⟩
    refine ⟨.ref l, rfl, l, rfl, ⟨_, SqL.of hl⟩, fun D hD => lc_list (K := K) (a := l) (xs := xs) (fun j H2 => Same H H2 ∧ H2 D = some (.lst (((ss.take j).map fun s => decide (rs = s.rs)).map V.bl))) ⟨same_upd hD, upd_same⟩ (fun j H2 _ z => SqL.of (z.1 _ _ hl)) ?_ ?_⟩
    · rintro j x H2 hj ⟨sm, h2⟩
      have hj' : j < ss.length := by
        rw [← Ss.len]
        exact (List.getElem?_eq_some_iff.mp hj).1
      have es : ss[j]? = some ss[j] := List.getElem?_eq_getElem hj'
      generalize ss[j] = s2 at es
      obtain ⟨t2, p2, rfl, ht2, hp2⟩ := Ss.at_ j x s2 hj es
      have g2 := Gs s2 (List.mem_of_getElem? es)
      refine ⟨rfl, .ref a, rfl, .ref t2, rfl, t2, _, 1, .ref p2, rfl, rfl, SqT.of (sm _ _ ht2), rfl, .tuple (rs.map rD), .tuple (s2.rs.map rD), .tup (SqT.of (sm _ _ ha)) (dp_rows _), .tup (SqT.of (sm _ _ hp2)) (dp_rows _), shaped_rows R, shaped_rows g2.pic.rows, ?_⟩
      rw [eqv_pics]
      refine ⟨_, h2, ?_, same_over sm hD, ?_⟩
      · rw [List.length_map, List.length_map, List.length_take]
        exact small1000 (by omega)
      · rw [upd_same, take_snoc es, List.map_append, List.map_append]
        rfl
    · rintro H2 ⟨sm, h2⟩
      rw [Ss.len, List.take_length] at h2
      refine ⟨D, _, rfl, SqL.of h2, ?_⟩
      have e : ((ss.map fun s => decide (rs = s.rs)).any id) = decide (rs ∈ ss.map (·.rs)) := by
        apply Bool.eq_iff_iff.mpr
        rw [decide_eq_true_iff, List.any_eq_true]
        constructor
        · rintro ⟨b, hb, e⟩
          obtain ⟨s, hs, rfl⟩ := List.mem_map.mp hb
          have : rs = s.rs := of_decide_eq_true e
          exact List.mem_map.mpr ⟨s, hs, this.symm⟩
        · intro h
          obtain ⟨s, hs, e⟩ := List.mem_map.mp h
          exact ⟨_, List.mem_map.mpr ⟨s, hs, rfl⟩, decide_eq_true e.symm⟩
      rw [e]
      exact q H2 sm
end
end Dt
namespace L2X
open PySem PySem.Spec PyProof.Rows L2
theorem for_enumG {K : PySem.W.Frag} {A : Src} {xs : List V} {g : TG} {tb : TS} {D : Ends} {σ : L2.St} {H : Hp} (Pv : Nat → L2.St → Hp → Prop) (h0 : Pv 0 σ H) (hl : ∀ i σ H, i ≤ xs.length → Pv i σ H → A.has K H xs)
    (hs : ∀ i x σ H T, xs[i]? = some x → Pv i σ H → H T = none → g (.ref T) σ (upd H T (.tup [.int (i : Nat), x])) fun σ2 H2 => tb { D with nx := Pv (i + 1), ct := Pv (i + 1), bk := D.nx } σ2 H2) (hd : ∀ σ H, Pv xs.length σ H → D.nx σ H) :
    ∃ W : Nat → Nat → L2.St → Hp → Prop, (∃ m, W 0 m σ H) ∧ ∀ i m σ H, W i m σ H →
      ((IteG K A).stop i H ∧ D.nx σ H) ∨ ((IteG K A).go i H ∧ ∃ N : L2.St → Hp → Prop, (∀ σ' H', N σ' H' → ∃ m', m' < m ∧ W (i + 1) m' σ' H') ∧ ∀ x H', (IteG K A).yld i H x H' → g x σ H' fun σ2 H2 => tb { D with nx := N, ct := N, bk := D.nx } σ2 H2) := by
  refine ⟨fun i m σ H => m = xs.length - i ∧ i ≤ xs.length ∧ Pv i σ H, ⟨xs.length, by simp, Nat.zero_le _, h0⟩, ?_⟩
  rintro i m σ H ⟨rfl, hi, p⟩
  have qx := hl i σ H hi p
  by_cases hlt : i < xs.length
  · have ex : xs[i]? = some xs[i] := List.getElem?_eq_getElem hlt
    refine .inr ⟨⟨xs, _, qx, ex⟩, Pv (i + 1), fun σ' H' p' => ⟨xs.length - (i + 1), by omega, rfl, hlt, p'⟩, fun x H' y => ?_⟩
    obtain ⟨T, u, rfl, nT, rfl, z1⟩ := y
    exact hs i u σ H T (z1 xs qx) p nT
  · have e : i = xs.length := by omega
    subst e
    exact .inl ⟨⟨xs, qx, rfl⟩, hd σ H p⟩
theorem for_zipG {K : PySem.W.Frag} {A B : Src} {xs ys : List V} {g : TG} {tb : TS} {D : Ends} {σ : L2.St} {H : Hp} (hn : xs.length = ys.length) (Pv : Nat → L2.St → Hp → Prop) (h0 : Pv 0 σ H) (hl : ∀ i σ H, i ≤ xs.length → Pv i σ H → A.has K H xs ∧ B.has K H ys)
    (hs : ∀ i x y σ H T, xs[i]? = some x → ys[i]? = some y → Pv i σ H → H T = none → g (.ref T) σ (upd H T (.tup [x, y])) fun σ2 H2 => tb { D with nx := Pv (i + 1), ct := Pv (i + 1), bk := D.nx } σ2 H2) (hd : ∀ σ H, Pv xs.length σ H → D.nx σ H) :
    ∃ W : Nat → Nat → L2.St → Hp → Prop, (∃ m, W 0 m σ H) ∧ ∀ i m σ H, W i m σ H →
      ((ItzG K A B).stop i H ∧ D.nx σ H) ∨ ((ItzG K A B).go i H ∧ ∃ N : L2.St → Hp → Prop, (∀ σ' H', N σ' H' → ∃ m', m' < m ∧ W (i + 1) m' σ' H') ∧ ∀ x H', (ItzG K A B).yld i H x H' → g x σ H' fun σ2 H2 => tb { D with nx := N, ct := N, bk := D.nx } σ2 H2) := by
  refine ⟨fun i m σ H => m = xs.length - i ∧ i ≤ xs.length ∧ Pv i σ H, ⟨xs.length, by simp, Nat.zero_le _, h0⟩, ?_⟩
  rintro i m σ H ⟨rfl, hi, p⟩
  obtain ⟨qx, qy⟩ := hl i σ H hi p
  by_cases hlt : i < xs.length
  · have hlt2 : i < ys.length := by omega
    have ex : xs[i]? = some xs[i] := List.getElem?_eq_getElem hlt
    have ey : ys[i]? = some ys[i] := List.getElem?_eq_getElem hlt2
    refine .inr ⟨⟨xs, ys, _, _, qx, qy, ex, ey⟩, Pv (i + 1), fun σ' H' p' => ⟨xs.length - (i + 1), by omega, rfl, hlt, p'⟩, fun x H' y => ?_⟩
    obtain ⟨T, u, v, rfl, nT, rfl, z1, z2⟩ := y
    exact hs i u v σ H T (z1 xs qx) (z2 ys qy) p nT
  · have e : i = xs.length := by omega
    subst e
    exact .inl ⟨⟨xs, ys, qx, qy, .inl ⟨rfl, by omega⟩⟩, hd σ H p⟩
end L2X
namespace Dt
open PySem PySem.Spec PyProof.Rows L2 L2X
open SX (S)
abbrev sAI : Stmt := inClass cAl 0
abbrev sAH : Stmt := inClass cAl 1
abbrev sAS : Stmt := inClass cAl 2
abbrev sAW : Stmt := inClass cAl 4
abbrev sAN : Stmt := inClass cAl 7
theorem scAI : FnScope ["self", "high", "shapes", "at", "shape"] ["self", "high", "shapes"] (defScope sAI) := ⟨rfl, rfl, rfl, by decide +kernel, rfl, by decide +kernel, by decide +kernel⟩
theorem scAH : FnScope ["self"] ["self"] (defScope sAH) := ⟨rfl, rfl, rfl, by decide +kernel, rfl, by decide +kernel, by decide +kernel⟩
theorem scAS : FnScope ["self"] ["self"] (defScope sAS) := ⟨rfl, rfl, rfl, by decide +kernel, rfl, by decide +kernel, by decide +kernel⟩
theorem scAW : FnScope ["self", "number"] ["self", "number"] (defScope sAW) := ⟨rfl, rfl, rfl, by decide +kernel, rfl, by decide +kernel, by decide +kernel⟩
theorem scAN : FnScope ["self", "number"] ["self", "number"] (defScope sAN) := ⟨rfl, rfl, rfl, by decide +kernel, rfl, by decide +kernel, by decide +kernel⟩
def spAI (C : Addr) : Sp := fun vs H Q _ => ∃ (p dx l : Addr) (high : Nat) (xs : List V) (ss : List Sh), vs = [.ref p, .int high, .ref l] ∧ H p = some (.ins C dx []) ∧ 1 ≤ high ∧ high ≤ 9 ∧ H l = some (.lst xs) ∧ Shs H xs ss ∧ Goods high 8 ss ∧ 0 < ss.length ∧ ss.length ≤ 16 ∧
  ∀ H', AlpAt C H' p high ss → (∀ b o, H b = some o → b ≠ p → H' b = some o) → Q .non H'
def spAH (C : Addr) : Sp := fun vs H Q _ => ∃ (o : Addr) (high : Nat) (ss : List Sh), vs = [.ref o] ∧ AlpAt C H o high ss ∧ Q (.int high) H
def spAS (C : Addr) : Sp := fun vs H Q _ => ∃ (o : Addr) (high : Nat) (ss : List Sh), vs = [.ref o] ∧ AlpAt C H o high ss ∧ ∀ (l : Addr) (xs : List V) (H' : Hp), Same H H' → H l = none → H' l = some (.lst xs) → Shs H' xs ss → Q (.ref l) H'
def spAN (C : Addr) : Sp := fun vs H Q _ => ∃ (o : Addr) (high i : Nat) (ss : List Sh), vs = [.ref o, .int i] ∧ AlpAt C H o high ss ∧ i < ss.length ∧ ∀ H', Same H H' → Q .non H'
def spAW (C : Addr) : Sp := fun vs H Q _ => ∃ (o : Addr) (high i : Nat) (ss : List Sh) (s : Sh), vs = [.ref o, .int i] ∧ AlpAt C H o high ss ∧ ss[i]? = some s ∧ PicR high s.w s.rs ∧ ∀ H', Same H H' → Q (.int s.w) H'
section
variable {P : Program} {w : World} {K : PySem.W.Frag} {mg : Str → Option Value} {base : Heap} {C CA : Addr}
theorem ok_ai {f : Addr} {fd : FuncData} {k : Nat} (F : Fun K "__init__" "Alphabet.__init__" sAI f fd) (T : Tx mg) (TA : Tal K mg CA) (en : mg "enumerate" = none) (mh : ∃ t, mg "MOST_HIGH" = some (.int 9 t)) (ms : ∃ t, mg "MOST_SHAPES" = some (.int 16 t))
    (GB : Pm P w K mg base CX0 (k + 1) "is_between" ["thing", "least", "most"] (spBetw K)) (GL : Pm P w K mg base CX0 (k + 1) "is_list" ["thing"] (spIsList K)) (GS : Pm P w K mg base CX0 (k + 1) "_is_shape" ["thing", "high"] spIS) (GO : Pm P w K mg base CX0 (k + 1) "_is_picture_of" ["picture", "shapes"] spIPO) :
    FnOk P w K mg base CX0 (k + 2) f fd ["self", "high", "shapes"] (spAI CA) := by
  obtain ⟨fB, fdB, GB, mB, kB, bB⟩ := GB.ex
  obtain ⟨fL, fdL, GL, mL, kL, bL⟩ := GL.ex
  obtain ⟨fS, fdS, GS, mS, kS, bS⟩ := GS.ex
  obtain ⟨fO, fdO, GO, mO, kO, bO⟩ := GO.ex
  obtain ⟨th, hmh⟩ := mh
  obtain ⟨ts, hms⟩ := ms
  refine F.ok scAI (fun vs H Q E h => ?_) (fun cdv A outer s H vs Q E hr h => ?_)
  · obtain ⟨p, dx, l, high, xs, ss, rfl, _⟩ := h
    rfl
  · obtain ⟨p, dx, l, high, xs, ss, rfl, hp, h0, h1, hl, Ss, Gs, l0, l1, q⟩ := h
    have nd := scAI.nd
    refine ⟨_, pss_cons (ps_if (pt_not (pt_val (pe_call GB hr (by rfl) mB kB bB .nil pass0 (pa_cons (pv 1) (pa_cons pe_int (pa_cons (pe_glob (v := .int 9) (by rfl) hmh ⟨_, rfl⟩) pa_nil)))))) pss_never pss_nil)
      (pss_cons (ps_if (PW.pt (pw_or (pt_not (pt_val (pe_call GL hr (by rfl) mL kL bL .nil pass0 (pa_cons (pv 2) pa_nil)))) (pw_or1 (pt_cmpR op_eq (pe_callB call_len_seq (by rfl) T.len PySem.boot_len (pa_cons (pv 2) pa_nil)) pe_int (nomark _))))) pss_never pss_nil)
      (pss_cons (ps_for PassesOwn.never rfl (pi_enumG (by rfl) en (pa_cons (pv 2) pa_nil)) (pg_tup rfl (pgs_cons (pg_name (i := 3) nd rfl (Or.inl rfl)) (pgs_cons (pg_name (i := 4) nd rfl (Or.inl rfl)) pgs_nil)))
        (pss_one (ps_if (PW.pt (pw_or (pt_cmpR op_eq (pv 3) (pe_glob (v := .int 16) (by rfl) hms ⟨_, rfl⟩) (nomark _)) (pw_or (pt_not (pt_val (pe_call GS hr (by rfl) mS kS bS .nil pass0 (pa_cons (pv 4) (pa_cons (pv 1) pa_nil))))) (pw_or1 (pt_val (pe_call GO hr (by rfl) mO kO bO .nil pass0 (pa_cons (pe_ix (r := rIxT K) ix_tup (pv 4) pe_int (fun _ _ => rfl)) (pa_cons (pe_slice sl_list (pv 2) po_none (po_some (pv 3))) pa_nil)))))))) pss_never pss_nil)))
      (pss_cons (ps_fld (pv 0) (pv 1) rfl)
      (pss_one (ps_fld (pv 0) (pe_callTy call_tuple_of (by rfl) T.tuple (by decide +kernel) (pa_cons (pv 2) pa_nil)) rfl))))), ?_⟩
    refine ⟨.int high, rfl, .int high, 1, 9, rfl, kt_int _, _, rfl, ?_⟩
    have eb : betw (.int high) 1 9 = true := by
      rw [betw_int, decide_eq_true (by omega), decide_eq_true (by omega)]
      rfl
    rw [eb]
    refine iteF ⟨.ref l, rfl, .ref l, "list", rfl, .lst (SqL.of hl), rfl, fun H1 s1 => ⟨_, rfl, iteF ?_⟩⟩
    have lx : xs.length = ss.length := Ss.len
    refine ⟨.ref l, rfl, l, xs, rfl, .inl (SqL.of (s1 _ _ hl)), rfl, _, rfl, ?_⟩
    have e0 : decide (V.int (xs.length : Int) = V.int 0) = false := decide_eq_false fun e => by
      have := V.int.inj e
      omega
    rw [e0]
    refine iteF ⟨.ref l, rfl, .lst l, xs, rfl, SqL.of (s1 _ _ hl), for_enumG (K := K) (A := .lst l) (xs := xs) (fun i σ H2 => ∃ y3 y4, σ = [some (.ref p), some (.int high), some (.ref l), y3, y4] ∧ Same H H2) ⟨none, none, rfl, s1⟩ (fun i σ H2 _ z => by
      obtain ⟨_, _, _, sm⟩ := z
      exact SqL.of (sm _ _ hl)) ?_ ?_⟩
    · rintro i x σ H2 T' hx ⟨y3, y4, rfl, sm⟩ hT
      have hi : i < ss.length := by
        rw [← lx]
        exact (List.getElem?_eq_some_iff.mp hx).1
      have es : ss[i]? = some ss[i] := List.getElem?_eq_getElem hi
      have gi := Gs.all ss[i] (List.getElem_mem hi)
      have sT := same_upd (o := .tup [V.int (i : Nat), x]) hT
      have s2 := sm.trans sT
      have shi := (Ss.same s2).at_ i x _ hx es
      refine ⟨T', _, rfl, SqT.of upd_same, rfl, _, _, rfl, _, _, rfl, rfl, ?_⟩
      refine ⟨.int i, rfl, rfl, _, rfl, ?_⟩
      have e16 : decide (V.int (i : Int) = V.int 16) = false := decide_eq_false fun e => by
        have := V.int.inj e
        omega
      rw [e16]
      refine iteF ⟨x, rfl, .int high, rfl, x, high, ss[i], rfl, shi, gi, fun H3 s3 => ⟨_, rfl, iteF ?_⟩⟩
      obtain ⟨t, p2, rfl, ht, hp2⟩ := shi
      have s23 := s2.trans s3
      refine ⟨.ref t, rfl, t, _, 1, .ref p2, rfl, rfl, SqT.of (s3 _ _ ht), rfl, .ref l, rfl, .int i, rfl, i, rfl, l, xs, rfl, SqL.of (s23 _ _ hl), fun l2 hl2 => ?_⟩
      have s4 := same_upd (o := .lst (cutV xs none (some (i : Int)))) hl2
      have ecut : cutV xs none (some (i : Int)) = xs.take i := by
        unfold cutV
        rw [HT.sIx_nat]
        show (xs.drop 0).take (min i xs.length - 0) = _
        rw [List.drop_zero, Nat.sub_zero, Nat.min_eq_left (by omega)]
      have s234 := s23.trans s4
      have hsub : Shs (upd H3 l2 (.lst (cutV xs none (some (i : Int))))) (xs.take i) (ss.take i) := by
        have S4 := Ss.same s234
        refine ⟨by rw [List.length_take, List.length_take, S4.len], fun j y s' hy hs => ?_⟩
        rw [List.getElem?_take] at hy hs
        split at hy
        · rename_i hlt
          rw [if_pos hlt] at hs
          exact S4.at_ j y s' hy hs
        · cases hy
      refine ⟨p2, l2, high, ss[i].w, 8, ss[i].rs, xs.take i, ss.take i, rfl, s4 _ _ (s3 _ _ hp2), gi.pic.rows, by rw [upd_same, ecut], hsub, fun s' hs => Gs.all s' (List.mem_of_mem_take hs), ?_, fun H5 s5 => ⟨_, rfl, ?_⟩⟩
      · rw [List.length_take]
        omega
      have e5 : decide (ss[i].rs ∈ (ss.take i).map (·.rs)) = false := by
        refine decide_eq_false fun hm => ?_
        have hnd := Gs.nd
        rw [List.map_take] at hm
        obtain ⟨j, hj⟩ := List.mem_iff_getElem?.mp hm
        rw [List.getElem?_take] at hj
        split at hj
        · rename_i hlt
          have hi2 : (ss.map (·.rs))[i]? = some ss[i].rs := by rw [List.getElem?_map, es]; rfl
          obtain ⟨q1, q2⟩ := List.getElem?_eq_some_iff.mp hj
          obtain ⟨q3, q4⟩ := List.getElem?_eq_some_iff.mp hi2
          have := (List.getElem_inj hnd).mp (q2.trans q4.symm)
          omega
        · cases hj
      rw [e5]
      exact iteF ⟨_, _, rfl, s234.trans s5⟩
    · rintro σ H2 ⟨y3, y4, rfl, sm⟩
      have hp2 := sm _ _ hp
      refine ⟨.int high, rfl, .ref p, rfl, p, CA, dx, [], rfl, hp2, TA.cl, TA.nH, (by show 0 < 1000; decide), ?_⟩
      have npl : l ≠ p := ne_of hl hp (by intro z; cases z)
      have hl2 : (upd H2 p (.ins CA dx (putF "_high" (.int high) []))) l = some (.lst xs) := by
        rw [upd_ne npl]
        exact sm _ _ hl
      refine ⟨.ref l, rfl, l, xs, rfl, .inl ⟨SqL.of hl2, fun z hz => ⟨.ref p, rfl, p, CA, dx, putF "_high" (.int high) [], rfl, ?_, TA.cl, TA.nS, (by show 1 < 1000; decide), ?_⟩⟩⟩
      · rw [upd_ne (ne_of_none upd_same hz)]
        exact upd_same
      have nzp : z ≠ p := (ne_of_none upd_same hz).symm
      refine q _ ⟨dx, z, xs, upd_same, by rw [upd_ne nzp]; exact upd_same, Ss.len, fun i x s' hx hs => ?_⟩ fun b o e hb => ?_
      · obtain ⟨t, p2, rfl, ht, hp2'⟩ := Ss.at_ i x s' hx hs
        have put : ∀ (b : Addr) (ys : List V), H b = some (.tup ys) → (upd (upd (upd H2 p (.ins CA dx (putF "_high" (.int high) []))) z (.tup xs)) p (.ins CA dx (aF high z))) b = some (.tup ys) := fun b ys hb => by
          have n1 : b ≠ p := ne_of hb hp (by intro z; cases z)
          have n2 : (upd H2 p (.ins CA dx (putF "_high" (.int high) []))) b = some (.tup ys) := by
            rw [upd_ne n1]
            exact sm _ _ hb
          rw [upd_ne n1, upd_ne (ne_of_none n2 hz)]
          exact n2
        exact ⟨t, p2, rfl, put _ _ ht, put _ _ hp2'⟩
      · have n2 : (upd H2 p (.ins CA dx (putF "_high" (.int high) []))) b = some o := by
          rw [upd_ne hb]
          exact sm _ _ e
        rw [upd_ne hb, upd_ne (ne_of_none n2 hz)]
        exact n2
theorem ok_ah {f : Addr} {fd : FuncData} {k : Nat} (F : Fun K "high" "Alphabet.high" sAH f fd) (TA : Tal K mg CA) : FnOk P w K mg base CX0 (k + 1) f fd ["self"] (spAH CA) := by
  refine F.ok scAH (fun vs H Q E h => ?_) (fun cdv A outer s H vs Q E hr h => ?_)
  · obtain ⟨o, high, ss, rfl, _⟩ := h
    rfl
  · obtain ⟨o, high, ss, rfl, ⟨dx, t, xs, ho, ht, Ss⟩, q⟩ := h
    refine ⟨_, pss_one (ps_ret (pe_fld (pv 0) rfl)), ?_⟩
    exact ⟨.ref o, rfl, o, CA, dx, _, .int high, rfl, ho, TA.cl, TA.nH, aF_high _ _, q⟩
theorem ok_as {f : Addr} {fd : FuncData} {k : Nat} (F : Fun K "shapes" "Alphabet.shapes" sAS f fd) (T : Tx mg) (TA : Tal K mg CA) : FnOk P w K mg base CX0 (k + 1) f fd ["self"] (spAS CA) := by
  refine F.ok scAS (fun vs H Q E h => ?_) (fun cdv A outer s H vs Q E hr h => ?_)
  · obtain ⟨o, high, ss, rfl, _⟩ := h
    rfl
  · obtain ⟨o, high, ss, rfl, ⟨dx, t, xs, ho, ht, Ss⟩, q⟩ := h
    refine ⟨_, pss_one (ps_ret (pe_callTy call_list_of (by rfl) T.list (by decide +kernel) (pa_cons (pe_fld (pv 0) rfl) pa_nil))), ?_⟩
    refine ⟨.ref o, rfl, o, CA, dx, _, .ref t, rfl, ho, TA.cl, TA.nS, aF_shapes _ _, t, xs, rfl, .inr (SqT.of ht), fun l hl => ?_⟩
    have sl := same_upd (o := .lst xs) hl
    exact q l xs _ sl hl upd_same (Ss.same sl)
theorem ok_an {f : Addr} {fd : FuncData} {k : Nat} (F : Fun K "_want_number" "Alphabet._want_number" sAN f fd) (T : Tx mg) (TA : Tal K mg CA) (GB : Pm P w K mg base CX0 (k + 1) "is_between" ["thing", "least", "most"] (spBetw K)) : FnOk P w K mg base CX0 (k + 2) f fd ["self", "number"] (spAN CA) := by
  obtain ⟨fB, fdB, GB, mB, kB, bB⟩ := GB.ex
  refine F.ok scAN (fun vs H Q E h => ?_) (fun cdv A outer s H vs Q E hr h => ?_)
  · obtain ⟨o, high, i, ss, rfl, _⟩ := h
    rfl
  · obtain ⟨o, high, i, ss, rfl, ⟨dx, t, xs, ho, ht, Ss⟩, hi, q⟩ := h
    refine ⟨_, pss_one (ps_if (pt_not (pt_val (pe_call GB hr (by rfl) mB kB bB .nil pass0 (pa_cons (pv 1) (pa_cons pe_int (pa_cons (pe_op op_sub (pe_callB call_len_seq (by rfl) T.len PySem.boot_len (pa_cons (pe_fld (pv 0) rfl) pa_nil)) pe_int) pa_nil)))))) pss_never pss_nil), ?_⟩
    have lx := Ss.len
    refine ⟨.int i, rfl, .ref o, rfl, o, CA, dx, _, .ref t, rfl, ho, TA.cl, TA.nS, aF_shapes _ _, t, xs, rfl, .inr (SqT.of ht), _, 1, rfl, rfl, .int i, 0, _, rfl, kt_int _, _, rfl, ?_⟩
    have eb : betw (.int i) 0 ((xs.length : Int) - 1) = true := by
      rw [betw_int, decide_eq_true (by omega), decide_eq_true (by omega)]
      rfl
    rw [eb]
    exact iteF (q H (Same.refl H))
theorem ok_aw {f : Addr} {fd : FuncData} {k : Nat} (F : Fun K "wide" "Alphabet.wide" sAW f fd) (TA : Tal K mg CA) (GZ : GS P w K mg base C (k + 1)) (GM : Mm P w K mg base (k + 1) CA "_want_number" ["self", "number"] (spAN CA)) : FnOk P w K mg base CX0 (k + 2) f fd ["self", "number"] (spAW CA) := by
  obtain ⟨fM, fdM, GM, mM, bM⟩ := GM.ex
  obtain ⟨fZ, fdZ, GZ, mZ, kZ, bZ⟩ := GZ.ex
  refine F.ok scAW (fun vs H Q E h => ?_) (fun cdv A outer s H vs Q E hr h => ?_)
  · obtain ⟨o, high, i, ss, s, rfl, _⟩ := h
    rfl
  · obtain ⟨o, high, i, ss, sh, rfl, al, hi, pr, q⟩ := h
    refine ⟨_, pss_cons (ps_expr (pe_meth (pv 0) TA.cl mM GM hr bM .nil pass0 (pa_cons (pv 1) pa_nil)))
      (pss_one (ps_ret (pe_ix (r := rIxT K) ix_tup (pe_call GZ hr (by rfl) mZ kZ bZ .nil passX0 (pa_cons (pe_ix (r := rIxT K) ix_tup (pe_ix (r := rIxT K) ix_tup (pe_fld (pv 0) rfl) (pv 1) (fun _ _ => rfl)) pe_int (fun _ _ => rfl)) pa_nil)) pe_int (fun _ _ => rfl)))), ?_⟩
    obtain ⟨dx, t, xs, ho, ht, Ss⟩ := id al
    have hlt := (List.getElem?_eq_some_iff.mp hi).1
    have lx := Ss.len
    refine ⟨.ref o, rfl, o, dx, _, rfl, ho, aF_no _ _ (by decide +kernel) (by decide +kernel), .int i, rfl, o, high, i, ss, rfl, al, hlt, fun H1 s1 => ?_⟩
    have ex : xs[i]? = some (xs[i]'(by omega)) := List.getElem?_eq_getElem (by omega)
    obtain ⟨t2, p2, e2, ht2, hp2⟩ := Ss.at_ i _ sh ex hi
    rw [e2] at ex
    refine ⟨.ref o, rfl, o, CA, dx, _, .ref t, rfl, s1 _ _ ho, TA.cl, TA.nS, aF_shapes _ _, .int i, rfl, t, xs, i, .ref t2, rfl, rfl, SqT.of (s1 _ _ ht), atI_nat ex, t2, _, 1, .ref p2, rfl, rfl, SqT.of (s1 _ _ ht2), rfl, .ref p2, rfl, .inr ⟨p2, _, rfl, SqT.of (s1 _ _ hp2), kn_rows pr, picOk_pic pr, fun p3 H3 s3 n3 h3 => ?_⟩⟩
    have pz := picSize pr
    rw [pz.1, pz.2] at h3
    exact ⟨p3, _, 1, .int sh.w, rfl, rfl, SqT.of h3, rfl, q H3 (s1.trans s3)⟩
end
end Dt
namespace Dt
open PySem PySem.Spec PyProof.Rows L2 L2X
open SX (S)
/-! ### ways, and the words of a way -/
def wdt (ss : List Sh) (n : Nat) : Nat := match ss[n]? with
  | some s => s.w
  | none => 0
def sgt (ss : List Sh) (n : Nat) : Nat := match ss[n]? with
  | some s => s.sg
  | none => 0
theorem wdt_at {ss : List Sh} {n : Nat} {s : Sh} (h : ss[n]? = some s) : wdt ss n = s.w := by
  unfold wdt
  rw [h]
theorem sgt_at {ss : List Sh} {n : Nat} {s : Sh} (h : ss[n]? = some s) : sgt ss n = s.sg := by
  unfold sgt
  rw [h]
/-- where the windows ahead of the i-th end -/
def edge (ss : List Sh) (ws : List (Nat × Nat)) : Nat → Nat
  | 0 => 0
  | i + 1 => match ws[i]? with
    | some p => p.1 + wdt ss p.2
    | none => 0
theorem edge_at {ss : List Sh} {ws : List (Nat × Nat)} {i : Nat} {p : Nat × Nat} (h : ws[i]? = some p) : edge ss ws (i + 1) = p.1 + wdt ss p.2 := by
  show (match ws[i]? with | some p => p.1 + wdt ss p.2 | none => 0) = _
  rw [h]
def WayOk (ss : List Sh) (cols : Nat) (ws : List (Nat × Nat)) : Prop := ∀ (i : Nat) (p : Nat × Nat), ws[i]? = some p → p.2 < ss.length ∧ edge ss ws i ≤ p.1 ∧ p.1 + wdt ss p.2 ≤ cols
theorem WayOk.nil {ss : List Sh} {cols : Nat} : WayOk ss cols [] := fun i p h => nomatch h
theorem edge_app {ss : List Sh} {ws vs : List (Nat × Nat)} {i : Nat} (h : i ≤ ws.length) : edge ss (ws ++ vs) i = edge ss ws i := by
  cases i with
  | zero => rfl
  | succ i =>
    show (match (ws ++ vs)[i]? with | some p => p.1 + wdt ss p.2 | none => 0) = (match ws[i]? with | some p => p.1 + wdt ss p.2 | none => 0)
    rw [List.getElem?_append_left (by omega)]
theorem WayOk.snoc {ss : List Sh} {cols : Nat} {ws : List (Nat × Nat)} {p : Nat × Nat} (h : WayOk ss cols ws) (h1 : p.2 < ss.length) (h2 : edge ss ws ws.length ≤ p.1) (h3 : p.1 + wdt ss p.2 ≤ cols) : WayOk ss cols (ws ++ [p]) := by
  intro i q hq
  by_cases hi : i < ws.length
  · rw [List.getElem?_append_left hi] at hq
    rw [edge_app (by omega)]
    exact h i q hq
  · have hl := (List.getElem?_eq_some_iff.mp hq).1
    rw [List.length_append, List.length_singleton] at hl
    have e : i = ws.length := by omega
    subst e
    rw [List.getElem?_append_right (Nat.le_refl _), Nat.sub_self] at hq
    cases hq
    rw [edge_app (Nat.le_refl _)]
    exact ⟨h1, h2, h3⟩
theorem WayOk.le {ss : List Sh} {c d : Nat} {ws : List (Nat × Nat)} (h : WayOk ss c ws) (l : c ≤ d) : WayOk ss d ws := fun i p e => by
  obtain ⟨h1, h2, h3⟩ := h i p e
  exact ⟨h1, h2, by omega⟩
/-- a word begins at this window -/
def isSt (ss : List Sh) (ws : List (Nat × Nat)) (b : Int) (i : Nat) : Bool := (i == 0) || decide (b ≤ ((ws.getD i (0, 0)).1 : Int) - (edge ss ws i : Int))
theorem isSt0 {ss : List Sh} {ws : List (Nat × Nat)} {b : Int} : isSt ss ws b 0 = true := rfl
theorem isSt_at {ss : List Sh} {ws : List (Nat × Nat)} {b : Int} {i : Nat} {p q : Nat × Nat} (hp : ws[i]? = some p) (hq : ws[i + 1]? = some q) : isSt ss ws b (i + 1) = decide (b ≤ (q.1 : Int) - (p.1 : Int) - (wdt ss p.2 : Int)) := by
  unfold isSt
  rw [edge_at hp, List.getD_eq_getElem?_getD, hq]
  show (false || decide (b ≤ (q.1 : Int) - ((p.1 + wdt ss p.2 : Nat) : Int))) = _
  rw [Bool.false_or]
  congr 2
  omega
def fl (f : Nat → Bool) (k : Nat) : List Nat := (List.range k).filter f
def zz (f : Nat → Bool) (k : Nat) : List (Nat × Nat) := (fl f k).zip ((fl f k).drop 1 ++ [k])
theorem fl_yes {f : Nat → Bool} {k : Nat} (h : f k = true) : fl f (k + 1) = fl f k ++ [k] := by
  unfold fl
  rw [List.range_succ, List.filter_append, List.filter_cons, h]
  rfl
theorem fl_no {f : Nat → Bool} {k : Nat} (h : f k = false) : fl f (k + 1) = fl f k := by
  unfold fl
  rw [List.range_succ, List.filter_append, List.filter_cons, h]
  exact List.append_nil _
theorem fl_lt {f : Nat → Bool} {k i : Nat} (h : i ∈ fl f k) : i < k := List.mem_range.mp (List.mem_filter.mp h).1
theorem fl_len (f : Nat → Bool) (k : Nat) : (fl f k).length ≤ k := Nat.le_trans (List.length_filter_le _ _) (by rw [List.length_range]; exact Nat.le_refl k)
theorem zip_last {S : List Nat} {U : List Nat} {l x : Nat} (h : S = U ++ [l]) : S.zip (S.drop 1 ++ [x]) = U.zip (S.drop 1) ++ [(l, x)] := by
  subst h
  have : U.length = ((U ++ [l]).drop 1).length := by
    rw [List.length_drop, List.length_append, List.length_singleton]
    omega
  exact List.zip_append this
theorem zz_start {f : Nat → Bool} {k : Nat} (h : f k = true) : zz f (k + 1) = zz f k ++ [(k, k + 1)] := by
  unfold zz
  rw [fl_yes h, zip_last (S := fl f k ++ [k]) (U := fl f k) (l := k) rfl]
  congr 1
  cases fl f k with
  | nil => rfl
  | cons a r => rfl
theorem fl_ne {f : Nat → Bool} (h0 : f 0 = true) : ∀ k, 0 < k → ∃ U l, fl f k = U ++ [l] ∧ l < k
  | 0, h => absurd h (by decide)
  | k + 1, _ => by
    cases h : f k with
    | true => exact ⟨fl f k, k, fl_yes h, by omega⟩
    | false =>
      rw [fl_no h]
      rcases Nat.eq_zero_or_pos k with e | e
      · rw [e] at h
        rw [h0] at h
        cases h
      · obtain ⟨U, l, h1, h2⟩ := fl_ne h0 k e
        exact ⟨U, l, h1, by omega⟩
theorem zz_cont {f : Nat → Bool} {k : Nat} (h0 : f 0 = true) (hk : 0 < k) (h : f k = false) : ∃ T l, zz f k = T ++ [(l, k)] ∧ zz f (k + 1) = T ++ [(l, k + 1)] ∧ l < k := by
  obtain ⟨U, l, h1, h2⟩ := fl_ne h0 k hk
  refine ⟨U.zip ((fl f k).drop 1), l, zip_last h1, ?_, h2⟩
  unfold zz
  rw [fl_no h]
  exact zip_last h1
theorem zz_mem {f : Nat → Bool} (h0 : f 0 = true) : ∀ k, ∀ p ∈ zz f k, p.1 < p.2 ∧ p.2 ≤ k
  | 0 => fun p h => nomatch h
  | k + 1 => fun p h => by
    cases e : f k with
    | true =>
      rw [zz_start e] at h
      rcases List.mem_append.mp h with z | z
      · have := zz_mem h0 k p z
        exact ⟨this.1, by omega⟩
      · rw [List.mem_singleton.mp z]
        exact ⟨by show k < k + 1; omega, by show k + 1 ≤ k + 1; omega⟩
    | false =>
      rcases Nat.eq_zero_or_pos k with hk | hk
      · rw [hk, h0] at e
        cases e
      · obtain ⟨T, l, h1, h2, h3⟩ := zz_cont h0 hk e
        rw [h2] at h
        rcases List.mem_append.mp h with z | z
        · have := zz_mem h0 k p (by rw [h1]; exact List.mem_append_left _ z)
          exact ⟨this.1, by omega⟩
        · rw [List.mem_singleton.mp z]
          exact ⟨by show l < k + 1; omega, by show k + 1 ≤ k + 1; omega⟩
theorem zz_len {f : Nat → Bool} (k : Nat) : (zz f k).length ≤ k := by
  unfold zz
  rw [List.length_zip]
  exact Nat.le_trans (Nat.min_le_left _ _) (fl_len f k)
/-- the signs of the windows from a first one on -/
def seg (sg : List Nat) (a b : Nat) : List Nat := (sg.drop a).take (b - a)
theorem seg_snoc {sg : List Nat} {a k c : Nat} (h : a ≤ k) (hc : sg[k]? = some c) : seg sg a (k + 1) = seg sg a k ++ [c] := by
  unfold seg
  rw [show k + 1 - a = (k - a) + 1 by omega]
  exact take_snoc (by rw [List.getElem?_drop, show a + (k - a) = k by omega]; exact hc)
theorem seg_self (sg : List Nat) (k : Nat) : seg sg k k = [] := by
  unfold seg
  rw [Nat.sub_self, List.take_zero]
theorem seg_len (sg : List Nat) (a b : Nat) : (seg sg a b).length ≤ b - a := by
  unfold seg
  rw [List.length_take]
  exact Nat.min_le_left _ _
abbrev Wd : Type := List Nat × Nat × Nat
def wOf (sg : List Nat) (p : Nat × Nat) : Wd := (seg sg p.1 p.2, p.1, p.2)
def wz (sg : List Nat) (f : Nat → Bool) (k : Nat) : List Wd := (zz f k).map (wOf sg)
/-- the signs of a way -/
def sgs (ss : List Sh) (ws : List (Nat × Nat)) : List Nat := ws.map fun p => sgt ss p.2
theorem sgs_at {ss : List Sh} {ws : List (Nat × Nat)} {i : Nat} {p : Nat × Nat} (h : ws[i]? = some p) : (sgs ss ws)[i]? = some (sgt ss p.2) := by
  unfold sgs
  rw [List.getElem?_map, h]
  rfl
/-- the words of a way -/
def wds (ss : List Sh) (ws : List (Nat × Nat)) (b : Int) : List Wd := wz (sgs ss ws) (isSt ss ws b) ws.length
theorem wz_start {sg : List Nat} {f : Nat → Bool} {k c : Nat} (h : f k = true) (hc : sg[k]? = some c) : wz sg f (k + 1) = wz sg f k ++ [([c], k, k + 1)] := by
  unfold wz
  rw [zz_start h, List.map_append]
  congr 1
  show [(seg sg k (k + 1), k, k + 1)] = _
  rw [seg_snoc (Nat.le_refl k) hc, seg_self]
  rfl
theorem wz_cont {sg : List Nat} {f : Nat → Bool} {k c : Nat} (h0 : f 0 = true) (hk : 0 < k) (h : f k = false) (hc : sg[k]? = some c) : ∃ T t l, wz sg f k = T ++ [(t, l, k)] ∧ wz sg f (k + 1) = T ++ [(t ++ [c], l, k + 1)] := by
  obtain ⟨T, l, h1, h2, h3⟩ := zz_cont h0 hk h
  refine ⟨T.map (wOf sg), seg sg l k, l, ?_, ?_⟩
  · unfold wz
    rw [h1, List.map_append]
    rfl
  · unfold wz
    rw [h2, List.map_append]
    show _ ++ [(seg sg l (k + 1), l, k + 1)] = _
    rw [seg_snoc (by omega) hc]
structure WdOk (w : Wd) : Prop where
  t : ∀ c ∈ w.1, 33 ≤ c ∧ c ≤ 126
  l : w.1.length ≤ 60
  a : w.2.1 ≤ 60
  b : w.2.2 ≤ 60
theorem wds_ok {ss : List Sh} {ws : List (Nat × Nat)} {b : Int} (hw : ws.length ≤ 60) (hg : ∀ c ∈ sgs ss ws, 33 ≤ c ∧ c ≤ 126) : ∀ w ∈ wds ss ws b, WdOk w := by
  intro w h
  obtain ⟨p, hp, rfl⟩ := List.mem_map.mp h
  obtain ⟨h1, h2⟩ := zz_mem (isSt0 (b := b)) _ p hp
  refine ⟨fun c hc => hg c (List.mem_of_mem_drop (List.mem_of_mem_take hc)), ?_, by show p.1 ≤ 60; omega, by show p.2 ≤ 60; omega⟩
  exact Nat.le_trans (seg_len _ _ _) (by omega)
theorem wds_len {ss : List Sh} {ws : List (Nat × Nat)} {b : Int} : (wds ss ws b).length ≤ ws.length := by
  unfold wds wz
  rw [List.length_map]
  exact zz_len _
/-! ### the words as they stand -/
def wV (w : Wd) : List V := [.str (S w.1), .int w.2.1, .int w.2.2]
structure Wds (H : Hp) (xs : List V) (ws : List Wd) : Prop where
  len : xs.length = ws.length
  at_ : ∀ (i : Nat) (x : V) (w : Wd), xs[i]? = some x → ws[i]? = some w → ∃ t, x = .ref t ∧ H t = some (.tup (wV w))
theorem Wds.same {H H' : Hp} {xs : List V} {ws : List Wd} (h : Wds H xs ws) (s : Same H H') : Wds H' xs ws := ⟨h.len, fun i x w a b => let ⟨t, e, z⟩ := h.at_ i x w a b; ⟨t, e, s _ _ z⟩⟩
theorem Wds.nil {H : Hp} : Wds H [] [] := ⟨rfl, fun i x w h => nomatch h⟩
theorem Wds.updl {H : Hp} {xs : List V} {ws : List Wd} {l : Addr} {ys zs : List V} (h : Wds H xs ws) (hl : H l = some (.lst ys)) : Wds (upd H l (.lst zs)) xs ws :=
  ⟨h.len, fun i x w a b => let ⟨t, e, z⟩ := h.at_ i x w a b; ⟨t, e, by rw [upd_ne (ne_of z hl (by intro q; cases q))]; exact z⟩⟩
theorem Wds.add {H : Hp} {xs : List V} {ws : List Wd} {t : Addr} {w : Wd} (h : Wds H xs ws) (ht : H t = some (.tup (wV w))) : Wds H (xs ++ [.ref t]) (ws ++ [w]) := by
  refine ⟨by rw [List.length_append, List.length_append, h.len]; rfl, fun i y s' hy hs => ?_⟩
  by_cases hi : i < xs.length
  · rw [List.getElem?_append_left hi] at hy
    rw [List.getElem?_append_left (by rw [← h.len]; exact hi)] at hs
    exact h.at_ i y s' hy hs
  · rw [List.getElem?_append_right (by omega)] at hy
    rw [List.getElem?_append_right (by rw [← h.len]; omega)] at hs
    have e0 : i - xs.length = 0 := by
      have := (List.getElem?_eq_some_iff.mp hy).1
      rw [List.length_singleton] at this
      omega
    rw [← h.len] at hs
    rw [e0] at hy hs
    cases hy
    cases hs
    exact ⟨t, rfl, ht⟩
def wD (w : Wd) : PyData := .tuple [.str (S w.1), .int w.2.1, .int w.2.2]
theorem dp_wds {K : PySem.W.Frag} {H : Hp} : ∀ {xs : List V} {ws : List Wd}, Wds H xs ws → DpAll K H xs (ws.map wD)
  | [], [], _ => .nil
  | [], _ :: _, h => nomatch h.len
  | _ :: _, [], h => nomatch h.len
  | x :: xs, w :: ws, h => by
    obtain ⟨t, e, ht⟩ := h.at_ 0 x w rfl rfl
    subst e
    exact .cons (.tup (SqT.of ht) (.cons (.str _) (.cons (.int _) (.cons (.int _) .nil)))) (dp_wds ⟨Nat.succ.inj h.len, fun i y q a b => h.at_ (i + 1) y q a b⟩)
end Dt
namespace Dt
open PySem PySem.Spec PyProof.Rows L2 L2X
open SX (S)
/-! ### _law_shapes -/
abbrev sShp : Stmt := topS 53
abbrev nShp : List Str := ["draw", "high", "most", "wide", "found", "signs", "turn", "way", "one", "row", "more", "sign", "picture"]
theorem scShp : FnScope nShp ["draw", "high", "most", "wide"] (defScope sShp) := ⟨rfl, rfl, rfl, by decide +kernel, rfl, by decide +kernel, by decide +kernel⟩
def spShp : Sp := fun vs H Q _ => ∃ (d : Addr) (high most wide n : Nat), vs = [.ref d, .int high, .int most, .int wide] ∧ Du H d n ∧ n + 500000 ≤ fuel ∧ 1 ≤ high ∧ high ≤ 60 ∧ 1 ≤ most ∧ most ≤ 20 ∧ 1 ≤ wide ∧ wide ≤ 60 ∧
  ∀ (l : Addr) (xs : List V) (ss : List Sh) (H' : Hp), H l = none → H' l = some (.lst xs) → Shs H' xs ss → Goods high wide ss → 0 < ss.length → ss.length ≤ most → Du H' d (n + 500000) → Do d H H' → Q (.ref l) H'
def FdI (l : Addr) (high wide : Nat) (H : Hp) (ss : List Sh) : Prop := ∃ xs, H l = some (.lst xs) ∧ Shs H xs ss ∧ Goods high wide ss
theorem FdI.dn {d l : Addr} {high wide n : Nat} {H H' : Hp} {ss : List Sh} (h : FdI l high wide H ss) (D : Du H d n) (nl : l ≠ d) (s : Do d H H') : FdI l high wide H' ss :=
  let ⟨xs, h1, h2, h3⟩ := h; ⟨xs, s _ _ h1 nl, h2.dn D s, h3⟩
theorem FdI.same {l : Addr} {high wide : Nat} {H H' : Hp} {ss : List Sh} (h : FdI l high wide H ss) (s : Same H H') : FdI l high wide H' ss :=
  let ⟨xs, h1, h2, h3⟩ := h; ⟨xs, s _ _ h1, h2.same s, h3⟩
theorem neD_nil {ss : List Sh} (h : ss = []) : (!PyData.eqv (.list (ss.map sD)) (.list [])) = false := by
  rw [h]
  simp [PyData.eqv, PyData.eqvAll]
theorem neD_ne {ss : List Sh} (h : ss ≠ []) : (!PyData.eqv (.list (ss.map sD)) (.list [])) = true := by
  cases ss with
  | nil => exact absurd rfl h
  | cons s r => simp [PyData.eqv, PyData.eqvAll]
/-- the pictures alone -/
structure Pcs (H : Hp) (zs : List V) (ss : List Sh) : Prop where
  len : zs.length = ss.length
  at_ : ∀ (i : Nat) (z : V) (s : Sh), zs[i]? = some z → ss[i]? = some s → ∃ p, z = .ref p ∧ H p = some (.tup (s.rs.map rv))
theorem Pcs.same {H H' : Hp} {zs : List V} {ss : List Sh} (h : Pcs H zs ss) (sm : Same H H') : Pcs H' zs ss := ⟨h.len, fun i z s a b => let ⟨p, e, hp⟩ := h.at_ i z s a b; ⟨p, e, sm _ _ hp⟩⟩
theorem Pcs.updl {H : Hp} {zs : List V} {ss : List Sh} {l : Addr} {ys us : List V} (h : Pcs H zs ss) (hl : H l = some (.lst ys)) : Pcs (upd H l (.lst us)) zs ss := ⟨h.len, fun i z s a b => let ⟨p, e, hp⟩ := h.at_ i z s a b; ⟨p, e, by rw [upd_ne (ne_of hp hl (by intro z; cases z))]; exact hp⟩⟩
theorem Pcs.add {H : Hp} {zs : List V} {ss : List Sh} {p : Addr} {s : Sh} (h : Pcs H zs ss) (hp : H p = some (.tup (s.rs.map rv))) : Pcs H (zs ++ [.ref p]) (ss ++ [s]) := by
  refine ⟨by rw [List.length_append, List.length_append, h.len]; rfl, fun i y s' hy hs => ?_⟩
  by_cases hi : i < zs.length
  · rw [List.getElem?_append_left hi] at hy
    rw [List.getElem?_append_left (by rw [← h.len]; exact hi)] at hs
    exact h.at_ i y s' hy hs
  · rw [List.getElem?_append_right (by omega)] at hy
    rw [List.getElem?_append_right (by rw [← h.len]; omega), ← h.len] at hs
    rcases hk : i - zs.length with _ | k
    · rw [hk] at hy hs
      cases hy
      cases hs
      exact ⟨p, rfl, hp⟩
    · rw [hk] at hy
      cases hy
theorem dp_pcs {K : PySem.W.Frag} {H : Hp} : ∀ {zs : List V} {ss : List Sh}, Pcs H zs ss → DpAll K H zs (ss.map pDs)
  | [], [], _ => .nil
  | [], _ :: _, h => nomatch h.len
  | _ :: _, [], h => nomatch h.len
  | x :: xs, s :: ss, h => by
    obtain ⟨p, e, hp⟩ := h.at_ 0 x s rfl rfl
    subst e
    exact .cons (.tup (SqT.of hp) (dp_rows _)) (dp_pcs ⟨Nat.succ.inj h.len, fun i y q a b => h.at_ (i + 1) y q a b⟩)
section
variable {P : Program} {w : World} {K : PySem.W.Frag} {mg : Str → Option Value} {base : Heap}
theorem ok_shp {f : Addr} {fd : FuncData} {k : Nat} (F : Fun K "_law_shapes" "_law_shapes" sShp f fd) (T : Tx mg) (hz : mg "zip" = none) (GN : Pm P w K mg base CX0 (k + 3) "_law_next" ["draw", "below"] spNx) (GK : Pm P w K mg base CX0 (k + 3) "_law_pick" ["draw", "some"] (spPk K))
    (GP : Pm P w K mg base CX0 (k + 3) "_law_picture" ["draw", "high", "wide", "dense"] spPc) (GR : Pm P w K mg base CX0 (k + 3) "_law_near" ["draw", "picture"] spNr) : FnOk P w K mg base CX0 (k + 4) f fd ["draw", "high", "most", "wide"] spShp := by
  obtain ⟨fN, fdN, GN, mN, kN, bN⟩ := GN.ex
  obtain ⟨fK, fdK, GK, mK, kK, bK⟩ := GK.ex
  obtain ⟨fP, fdP, GP, mP, kP, bP⟩ := GP.ex
  obtain ⟨fR, fdR, GR, mR, kR, bR⟩ := GR.ex
  refine F.ok scShp (fun vs H Q E h => ?_) (fun cdv A outer s H vs Q E hr h => ?_)
  · obtain ⟨d, high, most, wide, n, rfl, _⟩ := h
    rfl
  · obtain ⟨d, high, most, wide, n, rfl, D, hn, h0, h1, m0, m1, w0, w1, q⟩ := h
    have nd := scShp.nd
    have hu64 := hr.units
    have hu65 : (A.deeper (envOfC "_law_shapes" (defScope sShp) s.heap.objs.size f cdv)).units + 65 < cLine := by
      have := hr.un
      omega
    refine ⟨_, pss_cons (ps_par (i := 4) (j := 5) (by rfl) nd rfl rfl (by decide) rfl rfl (pa_cons (pe_lst pa_nil) (pa_cons (pe_call GK hr (by rfl) mK kK bK .nil pass0 (pa_cons (pv 0) (pa_cons (pe_lst (pa_cons pe_str (pa_cons pe_str (pa_cons pe_str (pa_cons pe_str pa_nil))))) pa_nil))) pa_nil)) (by rfl))
      (pss_cons (ps_for PassesOwn.never rfl (pi_range1 rfl T.range (pa_cons (pe_op op_add pe_int (pe_call GN hr (by rfl) mN kN bN .nil pass0 (pa_cons (pv 0) (pa_cons (pv 2) pa_nil)))) pa_nil)) (pg_name (i := 6) nd rfl (.inl rfl))
        (C8.pss_cut (ps_par (i := 7) (j := 8) (by rfl) nd rfl rfl (by decide) rfl rfl (pa_cons (pe_call GN hr (by rfl) mN kN bN .nil pass0 (pa_cons (pv 0) (pa_cons pe_int pa_nil))) (pa_cons (pe_call GP hr (by rfl) mP kP bP .nil pass0 (pa_cons (pv 0) (pa_cons (pv 1) (pa_cons (pe_op op_add pe_int (pe_call GN hr (by rfl) mN kN bN .nil pass0 (pa_cons (pv 0) (pa_cons (pv 3) pa_nil)))) (pa_cons (pe_op op_add pe_int (pe_call GN hr (by rfl) mN kN bN .nil pass0 (pa_cons (pv 0) (pa_cons pe_int pa_nil)))) pa_nil))))) pa_nil)) (by rfl))
        (C8.pss_cut (ps_if (PW.pt (pw_and (pt_cmpR (op_neD hu64) (pv 4) (pe_lst pa_nil) (nomark _)) (pw_and1 (pt_cmpR op_eq (pv 7) pe_int (nomark _)))))
            (pss_one (ps_set (i := 8) nd rfl (.inl rfl) (pe_call GR hr (by rfl) mR kR bR .nil pass0 (pa_cons (pv 0) (pa_cons (pe_ix (r := rIxT K) ix_tup (pe_call GK hr (by rfl) mK kK bK .nil pass0 (pa_cons (pv 0) (pa_cons (pv 4) pa_nil))) pe_int (fun _ _ => rfl)) pa_nil)))))
            (pss_one (ps_if (PW.pt (pw_and (pt_cmpR (op_neD hu64) (pv 4) (pe_lst pa_nil) (nomark _)) (pw_and1 (pt_cmpR op_eq (pv 7) pe_int (nomark _)))))
              (pss_cons (ps_set (i := 8) nd rfl (.inl rfl) (pe_callTy call_tuple_of (by rfl) T.tuple (by decide +kernel) (pa_cons (pe_lc (own := [("row", 9), ("more", 10)]) (g := gTup K 2 (gCons (gName 9) (gCons (gName 10) gNil))) (tt := tYes) rfl nd (pi_zipG (by rfl) hz (pa_cons (pe_ix (r := rIxT K) ix_tup (pe_call GK hr (by rfl) mK kK bK .nil pass0 (pa_cons (pv 0) (pa_cons (pv 4) pa_nil))) pe_int (fun _ _ => rfl)) (pa_cons (pv 8) pa_nil))) (blkOk_by (N := nShp) (sc := defScope sShp) (by decide +kernel))
                  (fun _ _ _ _ _ => pg_tup rfl (pgs_cons (pg_name (i := 9) nd rfl (Or.inl rfl)) (pgs_cons (pg_name (i := 10) nd rfl (Or.inl rfl)) pgs_nil))) (fun _ _ _ _ _ => pts_nil) (fun _ _ _ _ _ => pe_op op_add_str (pv 9) (pv 10))) pa_nil)))
              (pss_one (ps_set (i := 8) nd rfl (.inl rfl) (pe_callTy call_tuple_of (by rfl) T.tuple (by decide +kernel) (pa_cons (pe_lc (own := [("row", 9)]) (g := gName 9) (tt := tYes) rfl nd (pi_tup (pv 8)) (blkOk_by (N := nShp) (sc := defScope sShp) (by decide +kernel)) (fun _ _ _ _ _ => pg_name (i := 9) nd rfl (Or.inl rfl)) (fun _ _ _ _ _ => pts_nil)
                  (fun _ _ _ _ _ => pe_slice sl_str (pv 9) po_none (po_some (pv 3)))) pa_nil))))) pss_nil)))
        (pss_one (ps_if (PW.pt (pw_and (pt_cmpR op_in_sign pe_str (pe_joinK (K := K) rfl pe_str (pv 8)) (by with_unfolding_all rfl)) (pw_and1 (pt_cmpR (op_notInD hu65) (pv 8) (pe_lc (own := [("sign", 11), ("picture", 12)]) (g := gTup K 2 (gCons (gName 11) (gCons (gName 12) gNil))) (tt := tYes) rfl nd (pi_list (pv 4)) (blkOk_by (N := nShp) (sc := defScope sShp) (by decide +kernel))
              (fun _ _ _ _ _ => pg_tup rfl (pgs_cons (pg_name (i := 11) nd rfl (Or.inl rfl)) (pgs_cons (pg_name (i := 12) nd rfl (Or.inl rfl)) pgs_nil))) (fun _ _ _ _ _ => pts_nil) (fun _ _ _ _ _ => pv 12)) (by with_unfolding_all rfl)))))
            (pss_one (ps_expr (pe_bm PySem.F.plainAttrs_list PySem.F.slot_list_append PySem.F.type_list_append mt_append (pv 4) (pa_cons (pe_tup (pa_cons (pe_call GK hr (by rfl) mK kK bK .nil pass0 (pa_cons (pv 0) (pa_cons (pe_slice sl_str (pv 5) po_none (po_some (pe_op op_add pe_int (pe_call GN hr (by rfl) mN kN bN .nil pass0 (pa_cons (pv 0) (pa_cons pe_int pa_nil)))))) pa_nil))) (pa_cons (pv 8) pa_nil))) pa_nil)))) pss_nil)))))
      (pss_one (ps_ret (pe_ifExp (pt_cmpR (op_neD hu64) (pv 4) (pe_lst pa_nil) (nomark _)) (pv 4) (pe_lst (pa_cons (pe_tup (pa_cons pe_str (pa_cons (pe_op op_repA (pe_tup (pa_cons pe_str pa_nil)) (pv 1)) pa_nil))) pa_nil)))))), ?_⟩
    have fu : n + 500000 ≤ 1000000000000 := hn
    refine ⟨by show 0 ≤ sizeLine; decide, fun l hl => ?_⟩
    have sl := same_upd (o := .lst []) hl
    have nl := D.new hl
    have Dl := D.same sl
    refine ⟨.ref d, rfl, by show 4 ≤ sizeLine; decide, fun l2 hl2 => ?_⟩
    have s2 := same_upd (o := .lst [V.str "abcdef", V.str "lIi1|!", V.str "?ab-.,", V.str "zZ~!#A"]) hl2
    have D2 := Dl.same s2
    refine ⟨d, .ref l2, n, rfl, D2, (by show n ≤ 1000000000000; omega), .inl ⟨l2, _, rfl, Dl.new hl2, upd_same, by decide, by decide, fun j y H3 hy D3 dn3 => ?_⟩⟩
    obtain ⟨zl, rfl, zlen, zsg⟩ : ∃ zl : List Nat, y = .str (S zl) ∧ zl.length = 6 ∧ ∀ c ∈ zl, 33 ≤ c ∧ c ≤ 126 := by
      rcases j with _ | _ | _ | _ | j
      · cases hy
        exact ⟨("abcdef" : Str).cps.toList, by rw [SX.S_tl], by decide +kernel, by decide +kernel⟩
      · cases hy
        exact ⟨("lIi1|!" : Str).cps.toList, by rw [SX.S_tl], by decide +kernel, by decide +kernel⟩
      · cases hy
        exact ⟨("?ab-.," : Str).cps.toList, by rw [SX.S_tl], by decide +kernel, by decide +kernel⟩
      · cases hy
        exact ⟨("zZ~!#A" : Str).cps.toList, by rw [SX.S_tl], by decide +kernel, by decide +kernel⟩
      · cases hy
    have F3 : FdI l high wide H3 [] := ⟨[], dn3 _ _ (s2 _ _ upd_same) nl, Shs.nil, Goods.nil⟩
    have dnA : Do d H H3 := ((Do.same sl).trans (Do.same s2)).trans dn3
    refine ⟨_, _, rfl, .ref d, rfl, .int most, rfl, d, most, n + 1, rfl, D3, (by show n + 1 ≤ 1000000000000; omega), by omega, by omega, fun m H4 mm0 mm1 D4 dn4 => ⟨1, m, rfl, rfl, _, rfl, by omega, by omega, ?_⟩⟩
    obtain ⟨t, rfl⟩ := Int.eq_ofNat_of_zero_le mm0
    have et : (1 + (t : Int)) = ((1 + t : Nat) : Int) := by omega
    rw [et]
    refine for_range (lo := 0) (n := 1 + t) (fun i σ H5 => ∃ (y6 y7 y8 : Option V) (ss : List Sh), σ = [some (.ref d), some (.int high), some (.int most), some (.int wide), some (.ref l), some (.str (S zl)), y6, y7, y8, none, none, none, none] ∧ FdI l high wide H5 ss ∧ ss.length ≤ i ∧ Du H5 d (n + 2 + 20100 * i) ∧ Do d H H5)
      ⟨none, none, none, [], rfl, F3.dn D3 nl dn4, Nat.le_refl _, D4, dnA.trans dn4⟩ ?_ ?_
    · rintro i σ H5 hi ⟨y6, y7, y8, ss, rfl, F5, sl5, D5, dn5⟩
      generalize (V.int (0 + (i : Int))) = tv
      -- way, one
      refine ⟨fun σ' H' => ∃ (way : Int) (p : Addr) (w1 : Nat) (rs : List (List Nat)), σ' = [some (.ref d), some (.int high), some (.int most), some (.int wide), some (.ref l), some (.str (S zl)), some tv, some (.int way), some (.ref p), none, none, none, none] ∧ PicR high w1 rs ∧ w1 ≤ wide ∧ H' p = some (.tup (rs.map rv)) ∧ FdI l high wide H' ss ∧ Du H' d (n + 2 + 20100 * i + 20003) ∧ Do d H H', ?_, ?_⟩
      · refine ⟨.ref d, rfl, d, 4, _, rfl, D5, (by show _ ≤ 1000000000000; omega), by decide, by decide, fun way H6 wa0 wa1 D6 dn6 => ?_⟩
        refine ⟨.ref d, rfl, .int high, rfl, .ref d, rfl, .int wide, rfl, d, wide, _, rfl, D6, (by show _ ≤ 1000000000000; omega), by omega, by omega, fun a H7 a0 a1 D7 dn7 => ⟨1, a, rfl, rfl, ?_⟩⟩
        refine ⟨.ref d, rfl, d, 6, _, rfl, D7, (by show _ ≤ 1000000000000; omega), by decide, by decide, fun b H8 b0 b1 D8 dn8 => ⟨3, b, rfl, rfl, ?_⟩⟩
        obtain ⟨a, rfl⟩ := Int.eq_ofNat_of_zero_le a0
        have ea : (1 + (a : Int)) = ((1 + a : Nat) : Int) := by omega
        have dn58 := dn6.trans (dn7.trans dn8)
        refine ⟨d, high, 1 + a, _, 3 + b, congrArg (fun z => [V.ref d, V.int high, V.int z, V.int (3 + b)]) ea, D8, (by show _ ≤ 1000000000000; omega), h0, h1, by omega, by omega, fun p rs H9 pr np hp D9 dn9 => ?_⟩
        exact ⟨_, _, rfl, way, p, 1 + a, rs, rfl, pr, by omega, hp, F5.dn D5 nl (dn58.trans dn9), D9.le (by omega), dn5.trans (dn58.trans dn9)⟩
      rintro _ H6 ⟨way, p, w1', rs, rfl, pr, hw, hp, F6, D6, dn6⟩
      -- near to another, put to another
      refine ⟨fun σ' H' => ∃ (p : Addr) (w1 : Nat) (rs : List (List Nat)), σ' = [some (.ref d), some (.int high), some (.int most), some (.int wide), some (.ref l), some (.str (S zl)), some tv, some (.int way), some (.ref p), none, none, none, none] ∧ PicR high w1 rs ∧ w1 ≤ wide ∧ H' p = some (.tup (rs.map rv)) ∧ FdI l high wide H' ss ∧ Du H' d (n + 2 + 20100 * i + 20050) ∧ Do d H H', ?_, ?_⟩
      · obtain ⟨xs, hxs, S6, G6⟩ := id F6
        refine ⟨.ref l, rfl, by show 0 ≤ sizeLine; decide, fun e0 he0 => ⟨.list (ss.map sD), .list [], .lst (SqL.of (same_upd he0 _ _ hxs)) (dp_shs (S6.same (same_upd he0))), .lst (SqL.of upd_same) .nil, shaped_shs G6.all, by decide +kernel, _, rfl, ?_⟩⟩
        have sE := same_upd (o := .lst []) he0
        have again : ∀ (H7 : Hp), Same H6 H7 → ∃ (p8 : Addr) (w1 : Nat) (rs : List (List Nat)), ([some (.ref d), some (.int high), some (.int most), some (.int wide), some (.ref l), some (.str (S zl)), some tv, some (.int way), some (.ref p), none, none, none, none] : L2.St) = [some (.ref d), some (.int high), some (.int most), some (.int wide), some (.ref l), some (.str (S zl)), some tv, some (.int way), some (.ref p8), none, none, none, none] ∧ PicR high w1 rs ∧ w1 ≤ wide ∧ H7 p8 = some (.tup (rs.map rv)) ∧ FdI l high wide H7 ss ∧ Du H7 d (n + 2 + 20100 * i + 20050) ∧ Do d H H7 :=
          fun H7 s67 => ⟨p, w1', rs, rfl, pr, hw, s67 _ _ hp, F6.same s67, (D6.same s67).le (by omega), dn6.trans (Do.same s67)⟩
        have lx : xs.length ≤ 1000 := by
          rw [S6.len]
          omega
        by_cases e : ss = []
        · refine iteE (neD_nil e) (iteF ?_)
          refine ⟨.ref l, rfl, by show 0 ≤ sizeLine; decide, fun e1 he1 => ⟨.list (ss.map sD), .list [], .lst (SqL.of (same_upd he1 _ _ (sE _ _ hxs))) (dp_shs ((S6.same sE).same (same_upd he1))), .lst (SqL.of upd_same) .nil, shaped_shs G6.all, by decide +kernel, _, rfl, ?_⟩⟩
          exact iteE (neD_nil e) (iteF (again _ (sE.trans (same_upd he1))))
        · have hpos : 0 < xs.length := by
            rw [S6.len]
            exact List.length_pos_iff.mpr e
          refine iteY (neD_ne e) ⟨.int way, rfl, rfl, _, rfl, ?_⟩
          have DE := D6.same sE
          cases decide (V.int way = V.int 0) with
          | true =>
            refine iteT ⟨.ref d, rfl, .ref d, rfl, .ref l, rfl, d, .ref l, _, rfl, DE, (by show _ ≤ 1000000000000; omega), .inl ⟨l, xs, rfl, nl, sE _ _ hxs, hpos, lx, fun j y H8 hy D8 dn8 => ?_⟩⟩
            have hj : j < ss.length := by
              rw [← S6.len]
              exact (List.getElem?_eq_some_iff.mp hy).1
            have S8 := (S6.same sE).dn DE dn8
            obtain ⟨t2, p2, rfl, ht2, hp2⟩ := S8.at_ j y ss[j] hy (List.getElem?_eq_getElem hj)
            have g2 := G6.all ss[j] (List.getElem_mem hj)
            refine ⟨t2, _, 1, .ref p2, rfl, rfl, SqT.of ht2, rfl, d, p2, high, ss[j].w, _, ss[j].rs, rfl, D8, (by show _ ≤ 1000000000000; omega), hp2, g2.pic, fun p3 rs3 H9 pr3 np3 hp3 D9 dn9 => ?_⟩
            exact ⟨p3, ss[j].w, rs3, rfl, pr3, g2.w8, hp3, (F6.same sE).dn DE nl (dn8.trans dn9), D9.le (by omega), (dn6.trans (Do.same sE)).trans (dn8.trans dn9)⟩
          | false =>
            refine iteF ⟨.ref l, rfl, by show 0 ≤ sizeLine; decide, fun e1 he1 => ⟨.list (ss.map sD), .list [], .lst (SqL.of (same_upd he1 _ _ (sE _ _ hxs))) (dp_shs ((S6.same sE).same (same_upd he1))), .lst (SqL.of upd_same) .nil, shaped_shs G6.all, by decide +kernel, _, rfl, iteY (neD_ne e) ⟨.int way, rfl, rfl, _, rfl, ?_⟩⟩⟩
            have sE2 := sE.trans (same_upd (o := .lst []) he1)
            have DE2 := D6.same sE2
            cases decide (V.int way = V.int 1) with
            | false => exact iteF (again _ sE2)
            | true =>
              refine iteT ⟨.ref d, rfl, .ref l, rfl, d, .ref l, _, rfl, DE2, (by show _ ≤ 1000000000000; omega), .inl ⟨l, xs, rfl, nl, sE2 _ _ hxs, hpos, lx, fun j y H8 hy D8 dn8 => ?_⟩⟩
              have hj : j < ss.length := by
                rw [← S6.len]
                exact (List.getElem?_eq_some_iff.mp hy).1
              have S8 := (S6.same sE2).dn DE2 dn8
              obtain ⟨t2, p2, rfl, ht2, hp2⟩ := S8.at_ j y ss[j] hy (List.getElem?_eq_getElem hj)
              have g2 := G6.all ss[j] (List.getElem_mem hj)
              generalize ss[j] = s2' at g2 hp2 ht2
              have hp8 : H8 p = some (.tup (rs.map rv)) := by
                obtain ⟨a1, b1, c1, hd1, _⟩ := id DE2
                exact dn8 _ _ (sE2 _ _ hp) (ne_of (sE2 _ _ hp) hd1 (by intro z; cases z))
              have F8 := (F6.same sE2).dn DE2 nl dn8
              have dn68 := (dn6.trans (Do.same sE2)).trans dn8
              have hl1 := g2.pic.len
              have hl2 := pr.len
              have hw1 := g2.w8
              refine ⟨t2, _, 1, .ref p2, rfl, rfl, SqT.of ht2, rfl, .ref p, rfl, .tup p2, .tup p, s2'.rs.map rv, rs.map rv, rfl, SqT.of hp2, SqT.of hp8, fun D5' hD5 => lc_zipG (K := K) (A := .tup p2) (B := .tup p) (xs := s2'.rs.map rv) (ys := rs.map rv) (by rw [List.length_map, List.length_map, hl1, hl2]) (fun i H9 => Same H8 H9 ∧ H9 D5' = some (.lst ((((s2'.rs.zip rs).take i).map fun q => q.1 ++ q.2).map rv))) ⟨same_upd hD5, upd_same⟩ (fun i H9 _ z => ⟨SqT.of (z.1 _ _ hp2), SqT.of (z.1 _ _ hp8)⟩) ?_ ?_⟩
              · rintro i x y H9 T' hx hy ⟨sm, h9⟩ hT
                obtain ⟨l1, hl1', rfl⟩ := map_at2 hx
                obtain ⟨m1', hm1, rfl⟩ := map_at2 hy
                have hz' : (s2'.rs.zip rs)[i]? = some (l1, m1') := List.getElem?_zip_eq_some.mpr ⟨hl1', hm1⟩
                have sT := same_upd (o := .tup [rv l1, rv m1']) hT
                have q1 := (g2.pic.row l1 (List.mem_of_getElem? hl1')).len
                have q2 := (pr.row m1' (List.mem_of_getElem? hm1)).len
                have q3 : i < s2'.rs.length := (List.getElem?_eq_some_iff.mp hl1').1
                refine ⟨T', _, rfl, SqT.of upd_same, rfl, _, _, rfl, _, _, rfl, rfl, rfl, rv l1, rfl, rv m1', rfl, S l1, S m1', rfl, rfl, ?_, ?_⟩
                · rw [SX.S_len, SX.S_len]
                  exact Nat.le_of_lt (small1000 (by omega))
                · rw [SX.S_cat]
                  refine ⟨_, sT _ _ h9, ?_, same_over (sm.trans sT) hD5, ?_⟩
                  · rw [List.length_map, List.length_map, List.length_take]
                    exact small1000 (by omega)
                  · rw [upd_same, take_snoc hz', List.map_append, List.map_append]
                    rfl
              · rintro H9 ⟨sm, h9⟩
                have e9 : (s2'.rs.zip rs).take (s2'.rs.map rv).length = s2'.rs.zip rs := by
                  apply List.take_of_length_le
                  rw [List.length_map, List.length_zip]
                  omega
                rw [e9] at h9
                have rows9 : ∀ r ∈ (s2'.rs.zip rs).map fun q => q.1 ++ q.2, r.length = s2'.w + w1' ∧ ∀ c ∈ r, c = 35 ∨ c = 46 := by
                  intro r hr'
                  obtain ⟨⟨u, v⟩, huv, rfl⟩ := List.mem_map.mp hr'
                  obtain ⟨hu, hv⟩ := List.of_mem_zip huv
                  have q1 := g2.pic.row u hu
                  have q2 := pr.row v hv
                  refine ⟨by rw [List.length_append, q1.len, q2.len], fun c hc => ?_⟩
                  rcases List.mem_append.mp hc with z | z
                  · exact q1.sg c z
                  · exact q2.sg c z
                have len9 : ((s2'.rs.zip rs).map fun q => q.1 ++ q.2).length = high := by
                  rw [List.length_map, List.length_zip]
                  omega
                generalize (s2'.rs.zip rs).map (fun q => q.1 ++ q.2) = ls at h9 rows9 len9
                refine ⟨D5', _, rfl, .inl ⟨SqL.of h9, fun p5 hp5 => ?_⟩⟩
                have s5 := same_upd (o := .tup (ls.map rv)) hp5
                refine ⟨.ref p5, rfl, p5, rfl, ⟨_, SqT.of upd_same⟩, fun D6' hD6 => lc_tup (K := K) (a := p5) (xs := ls.map rv) (fun i H10 => Same (upd H9 p5 (.tup (ls.map rv))) H10 ∧ H10 D6' = some (.lst (((ls.take i).map fun r => r.take wide).map rv))) ⟨same_upd hD6, upd_same⟩ (fun i H10 _ z => SqT.of (z.1 _ _ upd_same)) ?_ ?_⟩
                · rintro i x H10 hi ⟨sm10, h10⟩
                  obtain ⟨r, hr', rfl⟩ := map_at2 hi
                  have lr := (rows9 r (List.mem_of_getElem? hr')).1
                  have q3 : i < ls.length := (List.getElem?_eq_some_iff.mp hr').1
                  refine ⟨rfl, rv r, rfl, .int wide, rfl, wide, rfl, S r, rfl, ?_, ?_⟩
                  · rw [SX.S_len]
                    exact Nat.le_of_lt (small1000 (by omega))
                  · rw [cutS_to]
                    refine ⟨_, h10, ?_, same_over sm10 hD6, ?_⟩
                    · rw [List.length_map, List.length_map, List.length_take]
                      exact small1000 (by omega)
                    · rw [upd_same, take_snoc hr', List.map_append, List.map_append]
                      rfl
                · rintro H10 ⟨sm10, h10⟩
                  rw [List.length_map, List.take_length] at h10
                  refine ⟨D6', _, rfl, .inl ⟨SqL.of h10, fun p7 hp7 => ?_⟩⟩
                  have s7 := same_upd (o := .tup ((ls.map fun r => r.take wide).map rv)) hp7
                  have sAll : Same H8 (upd H10 p7 (.tup ((ls.map fun r => r.take wide).map rv))) := ((sm.trans s5).trans sm10).trans s7
                  have pw0 := pr.w0
                  refine ⟨p7, min wide (s2'.w + w1'), ls.map fun r => r.take wide, rfl, ⟨by rw [List.length_map]; exact len9, fun r hr' => ?_, h0, h1, by omega, by omega⟩, by omega, upd_same, F8.same sAll, (D8.same sAll).le (by omega), dn68.trans (Do.same sAll)⟩
                  obtain ⟨u, hu, rfl⟩ := List.mem_map.mp hr'
                  obtain ⟨q1, q2⟩ := rows9 u hu
                  exact ⟨by rw [List.length_take, q1], fun c hc => q2 c (List.mem_of_mem_take hc)⟩
      rintro _ H7 ⟨p, w1, rs, rfl, pr, hw, hp, F7, D7, dn7⟩
      obtain ⟨xs, hxs, S7, G7⟩ := id F7
      have fin0 : ∀ H8, Same H7 H8 → ∃ (y6 y7 y8 : Option V) (ss : List Sh), ([some (.ref d), some (.int high), some (.int most), some (.int wide), some (.ref l), some (.str (S zl)), some tv, some (.int way), some (.ref p), none, none, none, none] : L2.St) = [some (.ref d), some (.int high), some (.int most), some (.int wide), some (.ref l), some (.str (S zl)), y6, y7, y8, none, none, none, none] ∧ FdI l high wide H8 ss ∧ ss.length ≤ i + 1 ∧ Du H8 d (n + 2 + 20100 * (i + 1)) ∧ Do d H H8 :=
        fun H8 s8 => ⟨_, _, _, ss, rfl, F7.same s8, by omega, (D7.same s8).le (by omega), dn7.trans (Do.same s8)⟩
      refine ⟨⟨"", rfl⟩, .ref p, rfl, "", p, rs.map S, rfl, rfl, .inr (SqT.of (by rw [List.map_map]; exact hp)), ?_, ?_⟩
      · rw [lens_flat (w := w1) fun r hr' => (pr.row r hr').len, pr.len]
        have := Nat.mul_le_mul h1 (show w1 ≤ 60 by omega)
        show high * w1 + _ * 0 ≤ 16777216
        omega
      rw [join_flat]
      refine ⟨35, S rs.flatten, congrArg V.str s_hash, rfl, _, rfl, ite2 (fun e => ?_) (fun e => iteF (fin0 _ (Same.refl _)))⟩
      have hdot : ∃ r ∈ rs, 35 ∈ r := by
        refine has_dot ?_
        have := of_decide_eq_true e
        simpa [S] using this
      refine ⟨.ref p, rfl, .ref l, rfl, l, rfl, ⟨_, SqL.of hxs⟩, fun Dd hDd => lc_list (K := K) (a := l) (xs := xs) (fun j H8 => Same H7 H8 ∧ ∃ zs, H8 Dd = some (.lst zs) ∧ Pcs H8 zs (ss.take j)) ⟨same_upd hDd, [], upd_same, ⟨rfl, fun i z s h => nomatch h⟩⟩ (fun j H8 _ z => SqL.of (z.1 _ _ hxs)) ?_ ?_⟩
      · rintro j x H8 hj ⟨sm, zs, hz, pc⟩
        have hj' : j < ss.length := by
          rw [← S7.len]
          exact (List.getElem?_eq_some_iff.mp hj).1
        have es : ss[j]? = some ss[j] := List.getElem?_eq_getElem hj'
        generalize ss[j] = s2' at es
        obtain ⟨t2, p2, rfl, ht2, hp2⟩ := S7.at_ j x s2' hj es
        have nD : p2 ≠ Dd := ne_of (sm _ _ hp2) hz (by intro z; cases z)
        refine ⟨t2, _, rfl, SqT.of (sm _ _ ht2), rfl, _, _, rfl, _, _, rfl, rfl, rfl, .ref p2, rfl, zs, hz, ?_, same_over sm hDd, _, upd_same, ?_⟩
        · rw [pc.len, List.length_take]
          exact small1000 (by omega)
        · rw [take_snoc es]
          exact (pc.updl hz).add (by rw [upd_ne nD]; exact sm _ _ hp2)
      · rintro H8 ⟨sm, zs, hz, pc⟩
        rw [S7.len, List.take_length] at pc
        refine ⟨.tuple (rs.map rD), ss.map pDs, .tup (SqT.of (sm _ _ hp)) (dp_rows _), .lst (SqL.of hz) (dp_pcs pc), shaped_rows pr.rows, shaped_pics G7.all, _, rfl, ?_⟩
        rw [any_pics]
        by_cases e2 : rs ∈ ss.map (·.rs)
        · rw [decide_eq_true e2]
          exact iteF (fin0 _ sm)
        · rw [decide_eq_false e2]
          have D8 := D7.same sm
          refine iteT ⟨.ref l, rfl, .inl ⟨rfl, _, SqL.of (sm _ _ hxs)⟩, .ref d, rfl, .str (S zl), rfl, .ref d, rfl, d, 6, _, rfl, D8, (by show _ ≤ 1000000000000; omega), by decide, by decide, fun m H9 mm0 mm1 D9 dn9 => ⟨1, m, rfl, rfl, _, rfl, S zl, rfl, ?_, ?_⟩⟩
          · rw [SX.S_len, zlen]
            decide
          obtain ⟨m, rfl⟩ := Int.eq_ofNat_of_zero_le mm0
          have em : (1 + (m : Int)) = ((1 + m : Nat) : Int) := by omega
          rw [em, cutS_to]
          refine ⟨d, .str (S (zl.take (1 + m))), _, rfl, D9, (by show _ ≤ 1000000000000; omega), .inr ⟨_, rfl, ?_, ?_, fun c H10 hc D10 dn10 => ?_⟩⟩
          · rw [SX.S_len, List.length_take, zlen]
            omega
          · rw [SX.S_len, List.length_take, zlen]
            omega
          have hc' : c ∈ zl := by
            have : c ∈ zl.take (1 + m) := by simpa [S] using hc
            exact List.mem_of_mem_take this
          have cc := zsg c hc'
          refine ⟨.ref p, rfl, by show 2 ≤ sizeLine; decide, fun T' hT => ?_⟩
          have dnB := dn9.trans dn10
          have F10 := (F7.same sm).dn D8 nl dnB
          obtain ⟨xs2, hx2, S10, _⟩ := id F10
          have sT := same_upd (o := .tup [V.str ⟨#[c]⟩, V.ref p]) hT
          have hp10 : H10 p = some (.tup (rs.map rv)) := by
            obtain ⟨a1, b1, c1, hd1, _⟩ := id D8
            exact dnB _ _ (sm _ _ hp) (ne_of (sm _ _ hp) hd1 (by intro z; cases z))
          have nlT : T' ≠ l := (ne_of_none hx2 hT).symm
          have npl : p ≠ l := ne_of hp10 hx2 (by intro z; cases z)
          refine ⟨l, xs2, .ref T', rfl, rfl, sT _ _ hx2, ?_, _, _, _, ss ++ [⟨c, w1, rs⟩], rfl, ⟨_, upd_same, ((S10.same sT).updl (sT _ _ hx2)).add ⟨T', p, rfl, ?_, ?_⟩, G7.add ⟨pr, hw, cc.1, cc.2, hdot⟩ e2⟩, ?_, ?_, ?_⟩
          · rw [S10.len]
            exact small1000 (by omega)
          · rw [upd_ne nlT]
            exact upd_same
          · rw [upd_ne npl]
            exact sT _ _ hp10
          · rw [List.length_append, List.length_singleton]
            omega
          · exact ((D10.same sT).upd nl).le (by omega)
          · exact ((dn7.trans (Do.same sm)).trans (dnB.trans (Do.same sT))).upd hl
    · rintro σ H5 ⟨y6, y7, y8, ss, rfl, F5, sl5, D5, dn5⟩
      obtain ⟨xs, hxs, S5, G5⟩ := id F5
      refine ⟨.ref l, rfl, by show 0 ≤ sizeLine; decide, fun e0 he0 => ⟨.list (ss.map sD), .list [], .lst (SqL.of (same_upd he0 _ _ hxs)) (dp_shs (S5.same (same_upd he0))), .lst (SqL.of upd_same) .nil, shaped_shs G5.all, by decide +kernel, _, rfl, ?_⟩⟩
      have sE := same_upd (o := .lst []) he0
      by_cases e : ss = []
      · refine iteE (neD_nil e) ⟨by show 1 ≤ sizeLine; decide, fun t1 ht1 => ⟨.int high, rfl, rep_any upd_same h0 (by omega) fun z H6 s6 hz => ⟨by show 2 ≤ sizeLine; decide, fun t2 ht2 => ⟨by show 1 ≤ sizeLine; decide, fun l3 hl3 => ?_⟩⟩⟩⟩
        have s1 := same_upd (o := .tup [V.str "#"]) ht1
        have s2' := same_upd (o := .tup [V.str "a", V.ref z]) ht2
        have s3 := same_upd (o := .lst [V.ref t2]) hl3
        have sAll := (((sE.trans s1).trans s6).trans s2').trans s3
        have hz3 := s3 _ _ (s2' _ _ hz)
        have ea : ("a" : Str) = S [97] := by decide +kernel
        refine q l3 [.ref t2] [⟨97, 1, List.replicate high [35]⟩] _ ?_ upd_same (Shs.nil.add ⟨t2, z, rfl, ?_, ?_⟩) (Goods.nil.add ⟨⟨List.length_replicate, fun r hr' => ?_, h0, h1, Nat.le_refl _, (by show (1 : Nat) ≤ 120; decide)⟩, w0, (by show (33 : Nat) ≤ 97; decide), (by show (97 : Nat) ≤ 126; decide), [35], ?_, List.mem_singleton.mpr rfl⟩ (fun h => nomatch h)) Nat.zero_lt_one m0 ((D5.same sAll).le (by omega)) (dn5.trans (Do.same sAll))
        · exact dn5.nn D5 ((((sE.trans s1).trans s6).trans s2').free hl3)
        · have := s3 _ _ (upd_same (H := H6) (a := t2) (o := .tup [V.str "a", V.ref z]))
          rw [ea] at this
          rw [ea]
          exact this
        · rw [hz3]
          show _ = some (HO.tup ((List.replicate high [35]).map rv))
          rw [List.map_replicate, s_hash]
          rfl
        · rw [(List.mem_replicate.mp hr').2]
          exact ⟨rfl, fun c hc => .inl (List.mem_singleton.mp hc)⟩
        · exact List.mem_replicate.mpr ⟨by omega, rfl⟩
      · refine iteY (neD_ne e) ⟨.ref l, rfl, ?_⟩
        exact q l xs ss _ hl (sE _ _ hxs) (S5.same sE) G5 (List.length_pos_iff.mpr e) (by omega) ((D5.same sE).le (by omega)) (dn5.trans (Do.same sE))
end
end Dt
/-! a comprehension whose elements are walked with the frame around it at hand -/
namespace L2X
open PySem PySem.Spec PyProof.Rows L2
section
variable {X : Cx}
/-- the block of a comprehension, begun at s1 over H1 -/
abbrev Bk (X : Cx) (sc : Scope) (s1 : Shared) (H1 : Hp) (L : Addr) (cl : List (Str × Addr)) (fp : List Addr) : Cx :=
  X.blk s1 H1 sc (compEnvC sc cl L X.env) fp
/-- from within the block the frame around it is seen -/
theorem out_of {pins pj : List (Addr × Obj)} {σ τ : L2.St} {H1 H2 : Hp} {s1 s2 : Shared} {sc : Scope} {L : Addr} {cl : List (Str × Addr)} {fp : List Addr}
    (I : Inv X pins σ H1 s1) (hf : ∀ b ∈ fp, FpOk X pins H1 b)
    (B : Inv (Bk X sc s1 H1 L cl fp) pj τ H2 s2) : Inv X pins σ H2 s2 := by
  refine I.call' (ch := fp) B.os B.base B.hok B.bare fun b hb => ?_
  have z := hf b hb
  exact ⟨z.2.2.2.1, z.2.1, z.2.2.2.2.1, z.2.2.2.2.2⟩
theorem pe_lcI {elt tg iter : Expr} {sc : Scope} {own : List (Str × Nat)} {pos : Pos} {wi : TI} {g : TG} {te : L2.St → TE}
    (hc : X.calm = true) (hN : X.N.Nodup) (hi : PI X tg iter wi) (ok : BlkOk X.N X.env.scope sc own)
    (hg : ∀ (s1 : Shared) (H1 : Hp) (L : Addr) (cl : List (Str × Addr)) (fp : List Addr), PG (Bk X sc s1 H1 L cl fp) tg g)
    (he : ∀ (pins : List (Addr × Obj)) (σ : L2.St) (s1 : Shared) (H1 : Hp) (L : Addr) (cl : List (Str × Addr)) (fp : List Addr),
      Inv X pins σ H1 s1 → (∀ b ∈ fp, FpOk X pins H1 b) → PE (Bk X sc s1 H1 L cl fp) elt (te σ))
    (hs : ∀ x, foldedSetIterable iter X.env x = pure x := by intro _; rfl) :
    PE X (.ListComp elt [⟨tg, iter, [], 0⟩] sc pos) (fun σ H Q => tLc wi g tYes (te σ) (own.map (·.2)) σ H Q) := by
  constructor
  intro pins s σ H Q I h
  rw [eval_ListComp]
  have freeIn : ∀ y ∈ sc.names, y.2 = .free → ∃ c, X.env.cells.lookup y.1 = some c := by
    intro y hy e
    cases ok.free y hy e with
    | inl k => exact I.ok.has _ (.inl k)
    | inr k => exact I.ok.has _ (.inr k)
  have uq : ∀ y ∈ sc.names, _ := fun y hy (e : y.2 = .local) => (ok.uniq y hy).trans (congrArg some e)
  apply wpAny_comprehension_free (use := none) rfl hs (closure_ok freeIn) ok.kind uq
  refine thn (hi.run pins s σ H _ I h) ?_
  intro xv sa hx
  refine thn hx ?_
  rintro itv sb ⟨it, fp, tn, J, Hb, rfl, Ib, T, stb, fb, rd⟩
  apply wpAny_newObj_type
  · apply newEnv_comp
    have newD : Hb sb.heap.objs.size = none := Ib.hok.fresh (Nat.le_refl _)
    obtain ⟨W, ⟨m0, w0⟩, tu⟩ := rd sb.heap.objs.size newD
    generalize eD : sb.heap.objs.size = D at newD w0 tu ⊢
    have objD : (sb.heap.push { cls := .type "list", data := .seq ([] : List Value).toArray }).get? D = some { cls := .type "list", data := .seq ([] : List Value).toArray } := by
      rw [← eD]
      exact Heap.get?_push_size _ rfl
    have Ic : Inv X pins σ (upd Hb D (.lst [])) { sb with heap := sb.heap.push { cls := .type "list", data := .seq ([] : List Value).toArray } } :=
      Ib.laid (t' := sb.toks) (fun b o e => Heap.get?_push_of_some _ e) (by rw [eD]; exact Nat.le_refl _) ⟨by show 0 ≤ sizeLine; decide, [], 0, .nil, objD⟩
    have stc : tn 0 (sb.heap.push { cls := .type "list", data := .seq ([] : List Value).toArray }) := T.keep _ _ _ stb fun b _ o e => Heap.get?_push_of_some _ e
    have fc : ∀ b ∈ fp, FpOk X pins (upd Hb D (.lst [])) b ∧ b < (sb.heap.push { cls := .type "list", data := .seq ([] : List Value).toArray }).objs.size := by
      intro b hb
      obtain ⟨o, e, _⟩ := T.obj _ _ stb b hb
      have lt := Heap.lt_size e
      have z := fb b hb
      constructor
      · refine ⟨?_, z.2⟩
        rw [upd_ne (show b ≠ D from Nat.ne_of_lt (eD ▸ lt))]
        exact z.1
      · rw [Heap.size_push]
        exact Nat.lt_succ_of_lt lt
    generalize eC : ({ sb with heap := sb.heap.push { cls := .type "list", data := .seq ([] : List Value).toArray } } : Shared) = sC at Ic
    have eCh : sb.heap.push { cls := .type "list", data := .seq ([] : List Value).toArray } = sC.heap := by rw [← eC]
    rw [eCh] at stc fc
    generalize eHc : upd Hb D (.lst []) = Hc at Ic fc w0
    have Id := block_start Ic ok hN fc
    generalize eCells : cellsFrom (sC.heap.objs.size + 1) sc.names (cloFrom X.env.cells sc.names []) = cl at Id ⊢
    change codeAny _ _ (.compStart (.ListComp elt [⟨tg, iter, [], 0⟩] sc pos) 0 (.ref it) (.ref D) (compEnvC sc cl sC.heap.objs.size X.env))
      (compPost (model X.prog X.w) X.A X.xe none (EP X pins σ Q) (.ref D) sC.heap.objs.size) _
    have gT := hg sC Hc sC.heap.objs.size cl fp
    have gE := he pins σ sC Hc sC.heap.objs.size cl fp Ic fun b hb => (fc b hb).1
    have std : tn 0 (pushCells (sC.heap.push { cls := .type "dict", data := .dict #[] }) sc.names) :=
      T.keep _ _ _ stc fun b _ o e => pushCells_keeps _ _ _ _ (Heap.get?_push_of_some _ e)
    generalize eD4 : ({ sC with heap := pushCells (sC.heap.push { cls := .type "dict", data := .dict #[] }) sc.names } : Shared) = sD at Id ⊢
    have eDh : pushCells (sC.heap.push { cls := .type "dict", data := .dict #[] }) sc.names = sD.heap := by rw [← eD4]
    rw [eDh] at std
    have walk : codeAny (model X.prog X.w) X.A (.compLoop (.ListComp elt [⟨tg, iter, [], 0⟩] sc pos) 0 (.ref it) (.ref D) (compEnvC sc cl sC.heap.objs.size X.env))
        (compPost (model X.prog X.w) X.A X.xe none (EP X pins σ Q) (.ref D) sC.heap.objs.size) sD := by
      apply compLoop_any (fun n t => ∃ (i : Nat) (G : Hp), Inv (Bk X sc sC Hc sC.heap.objs.size cl fp) [] (wipe σ (own.map (·.2))) G t ∧ tn i t.heap ∧ (∀ b ∈ fp, G b = none) ∧ W i n G) _ m0
        ⟨0, Hc, Id, std, fun b hb => (fc b hb).1.1, w0⟩
      rintro n t ⟨i, G, It, tt, gn, wi⟩
      have fpB : ∀ {τ : L2.St} {G' : Hp} {t' : Shared}, Inv (Bk X sc sC Hc sC.heap.objs.size cl fp) [] τ G' t' → (∀ b ∈ fp, G' b = none) → ∀ b ∈ fp, FpOk (Bk X sc sC Hc sC.heap.objs.size cl fp) [] G' b := by
        intro τ G' t' B hn b hb
        have z := B.ok.exf b hb
        exact ⟨hn b hb, z.1, B.ok.exfs b hb, .inl hb, fun x c e => z.2 x c e, fun p hp => nomatch (show p ∈ ([] : List (Addr × Obj)) from hp)⟩
      rcases tu i n G wi with ⟨st, q⟩ | ⟨go, Nx, toW, step⟩
      · apply thnF (T.done (Bk X sc sC Hc sC.heap.objs.size cl fp) rfl rfl rfl hc i [] t _ G (fun _ _ => False) It (fpB It gn) tt st)
        rintro r u ⟨rfl, Iu⟩
        have Iout := out_of Ic (fun b hb => (fc b hb).1) Iu
        obtain ⟨m, nsL, _⟩ := id Iu.loc
        have freeL : G sC.heap.objs.size = none := Iu.free
        refine ⟨m, nsL, fun h' sb' => ?_⟩
        have fL := Ic.fpOk (Nat.le_refl _) freeL
        exact ⟨.ref D, G, Iout.turned (t' := u.toks) (fun b o hb e => (sb'.2 b hb).trans e) fL.1 fL.2.1 fL.2.2.2.1 fL.2.2.2.2.1 fL.2.2.2.2.2, rfl, q⟩
      · apply thnF (T.item (Bk X sc sC Hc sC.heap.objs.size cl fp) rfl rfl rfl hc i [] t _ G (fun _ _ => False) It (fpB It gn) tt go)
        rintro r t1 ⟨u, rfl, hu⟩
        refine thnF hu ?_
        rintro _ t2 ⟨x, G2, I2, rx, yl, tt2, gn2⟩
        have Ip := I2.pinned (fpB I2 gn2) (T.obj _ _ tt2)
        refine thnF (gT.run _ t2 _ G2 x u _ Ip rx (step x G2 yl)) ?_
        rintro _ t3 ⟨τ, G3, I3, wq, q3⟩
        simp only [tYes, if_true] at q3
        apply wpAny_tests_nil
        simp only [if_true]
        refine thnF (gE.run _ t3 τ G3 _ I3 q3) ?_
        rintro z t4 ⟨y, G4, I4, ry, acc, accD, accL, nx⟩
        refine app_ok (X := Bk X sc sC Hc sC.heap.objs.size cl fp) I4 accD accL ry fun t5 I5 => ?_
        obtain ⟨m, lt, wm⟩ := toW _ nx
        have still : ∀ b ∈ fp, ∀ o, t2.heap.get? b = some o → t5.heap.get? b = some o ∧ (upd G4 D (.lst (acc ++ [y]))) b = none := by
          intro b hb o e
          have z := I5.pin (b, o) (List.mem_append_right _ (List.mem_append_right _ (mem_pinsAt hb e)))
          exact ⟨z.1, z.2.1⟩
        refine ⟨m, lt, i + 1, _, (I5.unpinned (pins := [])).weak ?_ fun j v e => ?_, T.keep _ _ _ tt2 fun b hb o e => (still b hb o e).1, fun b hb => ?_, wm⟩
        · rw [← wq, wipe_length]
        · rw [← wq] at e
          exact (wipe_some e).1
        · obtain ⟨o, e, _⟩ := T.obj _ _ tt2 b hb
          exact (still b hb o e).2
    exact codeAny_compStart_list walk (T.self X.A 0 _ _ _ std walk)
  · show 0 ≤ sizeLine
    decide
end
end L2X
/-! objects taken under watch, and let go; a caught exception kept behind its clause -/
namespace L2X
open PySem PySem.Spec PyProof.Rows L2
section
variable {X : Cx} {pins : List (Addr × Obj)} {σ : L2.St} {H : Hp} {s : Shared}
/-- an object that is younger than the entry comes under watch -/
theorem adopt {a : Addr} {o : HO} {oe : Obj} (I : Inv X pins σ H s) (ha : s.heap.get? a = some oe) (nc : ∀ v, oe.data ≠ .cell v) (na : H a = none) (nL : a ≠ X.env.locals)
    (n0 : X.s_0.heap.get? a = none) (np : ∀ p ∈ X.pn ++ pins, p.1 ≠ a) (new : ObjOk X.prog X.w (upd H a o) s.heap a o) : Inv X pins σ (upd H a o) s := by
  have old : ∀ b u, H b = some u → (upd H a o) b = some u := by
    intro b u e
    rw [upd_ne (ne_of_none e na)]
    exact e
  have ent : ∀ b u, X.s_0.heap.get? b = some u → b ≠ a := by
    rintro b u e rfl
    rw [n0] at e
    cases e
  constructor
  · exact I.ok
  · exact I.os
  · exact I.bare
  · constructor
    · exact I.base.keep
    · exact I.base.slot
    · intro b u e n hx
      rw [upd_ne (ent b u e)]
      exact I.base.free b u e n hx
    · exact I.base.there
    · exact fun b xs e => old _ _ (I.base.tups b xs e)
    · exact fun b u v e => old _ _ (I.base.frzs b u v e)
    · intro b ps e
      obtain ⟨m, q⟩ := I.base.tbls b ps e
      exact ⟨m, old _ _ q⟩
  · exact I.loc
  · exact I.cell
  · rw [upd_ne nL.symm]
    exact I.free
  · intro x c e
    have nca : c ≠ a := by
      rintro rfl
      obtain ⟨v, oc, hoc, hd⟩ := I.cell x c e
      rw [ha] at hoc
      cases hoc
      exact nc _ hd
    rw [upd_ne nca]
    exact I.freeC x c e
  · intro p hp
    obtain ⟨e, n, r⟩ := I.pin p hp
    refine ⟨e, ?_, r⟩
    rw [upd_ne (np p hp)]
    exact n
  · intro b u e
    by_cases hb : b = a
    · subst hb
      rw [upd_same] at e
      cases e
      exact new
    · rw [upd_ne hb] at e
      exact (I.hok b u e).stay (fun _ _ _ q => q) (fun c q => old _ _ q) fun c xs q => old _ _ q
  · exact I.len
/-- a thing of our own is let go -/
theorem letgo {a : Addr} {φ : Heap → Prop} (I : Inv X pins σ H s) (ha : H a = some (.ext φ)) : Inv X pins σ (delH H a) s := by
  have oth : ∀ b u, H b = some u → (∀ ψ, u ≠ .ext ψ) → delH H a b = some u := by
    intro b u e ne
    rw [delH_ne]
    · exact e
    · rintro rfl
      rw [ha] at e
      cases e
      exact ne _ rfl
  have non : ∀ b, H b = none → delH H a b = none := by
    intro b e
    by_cases hb : b = a
    · rw [hb]
      exact delH_same
    · rw [delH_ne hb]
      exact e
  constructor
  · exact I.ok
  · exact I.os
  · exact I.bare
  · constructor
    · exact I.base.keep
    · exact I.base.slot
    · exact fun b u e n hx => non b (I.base.free b u e n hx)
    · exact I.base.there
    · exact fun b xs e => oth _ _ (I.base.tups b xs e) fun ψ z => nomatch z
    · exact fun b u v e => oth _ _ (I.base.frzs b u v e) fun ψ z => nomatch z
    · intro b ps e
      obtain ⟨m, q⟩ := I.base.tbls b ps e
      exact ⟨m, oth _ _ q fun ψ z => nomatch z⟩
  · exact I.loc
  · exact I.cell
  · exact non _ I.free
  · exact fun x c e => non _ (I.freeC x c e)
  · intro p hp
    obtain ⟨e, n, r⟩ := I.pin p hp
    exact ⟨e, non _ n, r⟩
  · intro b u e
    by_cases hb : b = a
    · rw [hb, delH_same] at e
      cases e
    · rw [delH_ne hb] at e
      exact (I.hok b u e).stay (fun _ _ _ q => q) (fun c q => oth _ _ q fun ψ z => nomatch z) fun c xs q => oth _ _ q fun ψ z => nomatch z
  · exact I.len
end
/-- a caught exception of the class cls stands at a -/
def ExI (cls : Value) (d : Option Addr) (a : Addr) : HO := .ext fun h => ∃ oe, h.get? a = some oe ∧ Zc cls d oe ∧ ∃ vs, oe.data = .fields vs
theorem exI_ok {P : Program} {w : World} {H : Hp} {h : Heap} {a : Addr} {cls : Value} {d : Option Addr} {oe : Obj} {vs : Array Value} (e : h.get? a = some oe) (z : Zc cls d oe) (f : oe.data = .fields vs) : ObjOk P w H h a (ExI cls d a) := by
  refine ⟨⟨oe, e, z, vs, f⟩, ⟨oe, e⟩, ?_⟩
  rintro h1 h2 ⟨o, q, r⟩ k
  exact ⟨o, k _ q, r⟩
/-- the wish of a clause 'except x as n' that takes all that comes, and behind which the exception is kept -/
def wKeep (K : PySem.W.Frag) (c : Value) (i : Nat) (ts : Addr → Value → Option Addr → TS) (D : Ends) : WX := fun cls d σ H =>
  PySem.W.exmOne K cls c = some true ∧ ∀ a, H a = none → ts a cls d { nx := fun σ' H' => D.nx (σ'.set i none) (upd H' a (ExI cls d a)), rt := fun _ _ => False } (σ.set i (some (.ref a))) H
section
variable {X : Cx} {x n : Str} {c : Value} {i : Nat} {body sr : List Stmt} {b0 : Stmt} {np p1 p2 : Pos} {tb : WX → TS} {ts : Addr → Value → Option Addr → TS}
/-- what the watch over a try's body does with an exception -/
def Watch (X : Cx) (pins : List (Addr × Obj)) (D : Ends) (hd : ExceptHandler) : Value → Shared → Prop := fun e sa =>
  wpAny (model X.prog X.w) X.A (noteFrame e X.env)
    (fun _ sb => wpAny (model X.prog X.w) X.A (setFlight e none)
      (fun _ sc => wpAny (model X.prog X.w) X.A (handleBy e X.env [hd]) (SP X pins D) X.xe sc) X.xe sb) X.xe sa
theorem watched {pins : List (Addr × Obj)} {D : Ends} (st : X.stack = X.env :: X.outer) (fr : X.env.frame = some X.env.locals) (hex : X.ex = []) (hN : X.N.Nodup) (hi : X.N[i]? = some n) (hln : X.env.kindOf n = some .local) (hc : Names X x c) (ok : X.Ok)
    (hsu : ∀ (a : Addr) (oe : Obj) (cls : Value) (d : Option Addr) (pn : List (Addr × Obj)), Zc cls d oe → (∃ vs, oe.data = .fields vs) → PSs (X.suite a ((a, oe) :: pn)) (b0 :: sr) (ts a cls d)) :
    Takes (X.tr (X.pn ++ pins) (Watch X pins D (.ExceptHandler (some (.Name x np)) (some n) (b0 :: sr) p2))) (wKeep X.K c i ts D) := by
  rintro u t ⟨a, B, sI, pj, τ, G, cls, d, rfl, Jt, toB, up, sky, na, os, ag, caught, suiteOk⟩
  have J : Inv X pins τ G sI := Jt.ofTry ok
  have fs : X.A.frames = some (X.env :: X.outer) := ok.frames.trans (congrArg some st)
  have sky' : Sky B (X.env :: X.outer) a (Zc cls d) X.env.locals t.heap := st ▸ sky
  unfold Watch
  apply Sky.land Zc.steady fs fr sky'
  intro h3 fly up3
  have J3 : Inv X pins τ G { t with heap := h3 } := J.landed toB fly.1 (up.trans up3) os ag
  obtain ⟨oe3, vs3, got3, cls3, dat3⟩ := fly.there
  have noFrame : a ∉ frs (X.env :: X.outer) := by
    intro hm
    obtain ⟨_, o', e', nf⟩ := fly.2.2.1.mem hm
    rw [got3] at e'
    cases e'
    exact nf _ dat3
  have neL : a ≠ X.env.locals := fun z => noFrame (List.mem_filterMap.mpr ⟨X.env, List.mem_cons_self, by rw [fr, z]⟩)
  have neF : a ∉ X.fs := by
    intro hm
    obtain ⟨e, he, q⟩ := List.mem_filterMap.mp hm
    exact noFrame (List.mem_filterMap.mpr ⟨e, List.mem_cons_of_mem _ he, q⟩)
  have notI : sI.heap.get? a = none := by
    cases e : sI.heap.get? a with
    | none => rfl
    | some o =>
      have z := toB a o e (by rw [st]; exact noFrame)
      rw [fly.2.1] at z
      cases z
  have not0 : X.s_0.heap.get? a = none := by
    cases e : X.s_0.heap.get? a with
    | none => rfl
    | some o =>
      obtain ⟨o', z⟩ := J.base.there a o e (by rw [hex]; exact fun z => nomatch z)
      rw [notI] at z
      cases z
  have notPin : ∀ p ∈ X.pn ++ pins, p.1 ≠ a := by
    rintro p hp rfl
    have z := (J.pin p hp).1
    rw [notI] at z
    cases z
  have S3 := J3.suite got3 dat3 na neL neF
  apply wpAny_handleBy_cons (codeAny_handlers_test _) (by intro q; cases q)
  have lookT : PySem.W.Looks (model X.prog X.w) h3 (typeOf (.ref a)) cls := by
    intro A Q E s k q
    exact wpAny_typeOf_ref (k _ _ got3) (cls3.1 ▸ q)
  have lookM := PySem.W.exm_one (M := model X.prog X.w) J3.kIn lookT caught
  have named : ∀ {Q E : Value → Shared → Prop}, Q c { t with heap := h3 } → wpAny (model X.prog X.w) (X.A.mark (some (.ref a))) (eval (.Name x np) X.env) Q E { t with heap := h3 } := by
    intro Q E q
    rcases hc with ⟨hg, hdb, hm | ⟨hm, hv, hnn⟩⟩
    · exact ld_glob (X := X.suite a ((a, oe3) :: (X.pn ++ pins))) S3 hg hm q hdb
    · exact ld_blt (X := X.suite a ((a, oe3) :: (X.pn ++ pins))) S3 hg hm hv q hnn hdb
  apply named
  apply lookM.here
  refine codeAny_handlers_suite_as ?_
  apply HandSPX.lands_againZ fly
  intro h4 fly4 up4
  have J4 : Inv X pins τ G { t with heap := h4 } := J.landed toB fly4.1 ((up.trans up3).trans up4) os ag
  obtain ⟨oe4, vs4, got4, cls4, dat4⟩ := fly4.there
  have S4 := J4.suite got4 dat4 na neL neF
  refine store_ok (X := X.suite a ((a, oe4) :: (X.pn ++ pins))) (v := .ref a) S4 hN hi (.inl hln) rfl (fun s5 S5 => ?_) (.inr hln)
  refine wpAny_mono ((hsu a oe4 cls d (X.pn ++ pins) cls4 ⟨_, dat4⟩).run [] s5 _ G _ S5 (suiteOk a na)) ?_ (fun _ _ z => False.elim z)
  rintro f s6 hsp
  cases f with
  | next =>
    obtain ⟨τ6, G6, S6, q6⟩ := hsp
    have pinned : Inv X ((a, oe4) :: pins) τ6 G6 s6 := by
      refine (S6.unsuite ok).pins_of fun p hp => ?_
      have z := S6.pin p
      cases List.mem_cons.mp hp with
      | inl e => exact z (by rw [e]; exact List.mem_append_left _ List.mem_cons_self)
      | inr e => exact z (List.mem_append_left _ (List.mem_cons_of_mem _ (List.mem_append_right _ e)))
    refine gone_ok pinned hN hi hln fun s7 J7 => ?_
    have z := J7.pin (a, oe4) (List.mem_append_right _ List.mem_cons_self)
    have J8 : Inv X pins (τ6.set i none) G6 s7 := J7.pins_of fun p hp => J7.pin p (List.mem_append_right _ (List.mem_cons_of_mem _ hp))
    exact ⟨_, _, adopt J8 z.1 z.2.2.2.2 z.2.1 z.2.2.1 not0 notPin (exI_ok z.1 cls4 dat4), q6⟩
  | brk =>
    obtain ⟨τ6, G6, S6, q6⟩ := hsp
    exact q6.elim
  | cont =>
    obtain ⟨τ6, G6, S6, q6⟩ := hsp
    exact q6.elim
  | ret u =>
    obtain ⟨v6, τ6, G6, S6, r6, q6⟩ := hsp
    exact q6.elim
/-- try: body / except x as n: suite, n's exception kept under watch behind it -/
theorem ps_try_keep (st : X.stack = X.env :: X.outer) (fr : X.env.frame = some X.env.locals) (hex : X.ex = []) (hN : X.N.Nodup) (hi : X.N[i]? = some n) (hln : X.env.kindOf n = some .local) (hc : Names X x c)
    (hb : ∀ (W : WX) (pn : List (Addr × Obj)) (xe : Value → Shared → Prop), Takes (X.tr pn xe) W → PassesOwn (model X.prog X.w) X.A X.env xe → PSs (X.tr pn xe) body (tb W))
    (hsu : ∀ (a : Addr) (oe : Obj) (cls : Value) (d : Option Addr) (pn : List (Addr × Obj)), Zc cls d oe → (∃ vs, oe.data = .fields vs) → PSs (X.suite a ((a, oe) :: pn)) (b0 :: sr) (ts a cls d)) :
    PS X (.Try body [.ExceptHandler (some (.Name x np)) (some n) (b0 :: sr) p2] [] [] p1) (fun D σ H => tb (wKeep X.K c i ts D) D σ H) := by
  constructor
  intro pins s σ H D I h
  apply wpAny_Try_except
  have run := (hb (wKeep X.K c i ts D) (X.pn ++ pins) (Watch X pins D (.ExceptHandler (some (.Name x np)) (some n) (b0 :: sr) p2)) (watched st fr hex hN hi hln hc I.ok hsu) PassesOwn.looking).run [] s σ H D (I.toTry _) h
  refine wpAny_mono run ?_ (fun _ _ z => z)
  rintro f t hsp
  cases f with
  | next =>
    obtain ⟨τ, G, J, q⟩ := hsp
    exact wpAny_execs_nil ⟨τ, G, J.ofTry I.ok, q⟩
  | brk =>
    obtain ⟨τ, G, J, q⟩ := hsp
    exact ⟨τ, G, J.ofTry I.ok, q⟩
  | cont =>
    obtain ⟨τ, G, J, q⟩ := hsp
    exact ⟨τ, G, J.ofTry I.ok, q⟩
  | ret u =>
    obtain ⟨v, τ, G, J, r, q⟩ := hsp
    exact ⟨v, τ, G, J.ofTry I.ok, r, q⟩
end
end L2X
namespace L2X
open PySem PySem.Spec PyProof.Rows L2
/-- isinstance(e, c), e a kept exception -/
def rIsX (K : PySem.W.Frag) : List V → Hp → VK → Prop := fun xs H Q => ∃ (a D : Addr) (c : V) (cv : Value) (b : Bool), xs = [.ref a, c] ∧ H a = some (ExI (.ref D) none a) ∧ ExcC K D ∧ (∀ u, RelV c u → u = cv) ∧ PySem.W.kitOne K (.ref D) cv = some b ∧ Q (.bl b) H
theorem call_isX {X : Cx} : CallR X (.builtin "isinstance") (rIsX X.K) := by
  intro pins s σ H xs us Q I r h
  obtain ⟨a, D, c, cv, b, rfl, ha, C, hcv, e, q⟩ := h
  cases r with
  | cons rx rr =>
    cases rr with
    | cons rt rr =>
      cases rr
      cases rx
      have ec := hcv _ rt
      subst ec
      obtain ⟨⟨oe, got, ⟨zc, zd⟩, vs, hv⟩, _⟩ := I.hok a _ ha
      have J : PySem.W.InstAt s.heap a oe D none := ⟨got, zc, by unfold PySem.W.notCls; rw [hv], by rw [zd]; trivial⟩
      exact PySem.W.kia_one (PySem.W.handS_kitx_exc C.hg C.hk C.hs C.hd C.ha C.hn C.ht C.hm) I.kIn J e (fun z => nomatch z) fun tk => ⟨.bl b, H, I.kept (t' := tk) fun _ _ z => z, rfl, q⟩
end L2X
/-! lambdas as values: made, kept under watch, called through a def -/
namespace L2X
open PySem PySem.Spec PyProof.Rows L2 LamX
/-- the lambda of these cells stands at f, its code at c -/
def CloO (q : Str) (pr : Arguments) (body : Expr) (sc : Scope) (cl : List (Str × Addr)) (c f : Addr) : HO :=
  .ext fun h => ∃ pm ctv, h.get? f = some (PySem.W.kla_obj "<lambda>" q pr body sc cl pm c ctv)
theorem cloO_ok {P : Program} {w : World} {H : Hp} {h : Heap} {q : Str} {pr : Arguments} {body : Expr} {sc : Scope} {cl : List (Str × Addr)} {c f : Addr} {pm ctv : Value}
    (e : h.get? f = some (PySem.W.kla_obj "<lambda>" q pr body sc cl pm c ctv)) : ObjOk P w H h f (CloO q pr body sc cl c f) := by
  refine ⟨⟨pm, ctv, e⟩, ⟨_, e⟩, ?_⟩
  rintro h1 h2 ⟨pm', ctv', e'⟩ k
  exact ⟨pm', ctv', k _ e'⟩
section
variable {X : Cx}
def lamQ (X : Cx) : Str := X.env.qual ++ "<lambda>"
/-- what the making of a lambda asks, and what comes of it -/
def tLamV (T : List (Addr × Str)) (X : Cx) (pr : Arguments) (body : Expr) (sc : Scope) : TE := fun _ H Q =>
  Tabs T H ∧ ∀ (f c : Addr) (H1 : Hp), ExtN H H1 → Tabs T H1 → H1 c = some (CodeO c (lamQ X)) → H1 f = none → H f = none →
    (∀ b q' pr' body' sc' cl' c', H1 b = some (CloO q' pr' body' sc' cl' c' b) → c ≠ b) → Q (.ref f) (upd H1 f (CloO (lamQ X) pr body sc (cloFrom X.env.cells sc.names []) c f))
theorem pe_lamV {T : List (Addr × Str)} {c P : Addr} {pr : Arguments} {body : Expr} {sc : Scope} {pos : Pos} (TB : TabB X.base X.mg c P) (hcode : X.env.code = .ref c) (hm : (P, lamQ X) ∈ T)
    (hu : ∀ p ∈ T, p.1 = P → p.2 = lamQ X) (L : LamS X.env.scope sc) (hdef : defaultsOf pr X.env = ([], [])) : PE X (.Lambda pr body sc pos) (tLamV T X pr body sc) := by
  constructor
  rintro pins s σ H Q I ⟨hT, h⟩
  obtain ⟨ps, hP, trip, known⟩ := hT _ hm
  have clOk := closure_ok (L.has I.ok)
  have globs : s.heap.Ns mainGlobals X.mg := I.mod.glob.keeps I.bk
  have code0 := TB.code.keeps I.bk
  have blt0 : s.heap.BuiltinsAt X.mg P := TB.bm.keeps I.bk
  have atP : s.heap.get? P = some { cls := .none, data := .fields ps } := I.hok P _ hP
  -- the end of both ways: the def object is new
  have fin : ∀ (h' : Heap) (tk : Nat) (c' : Addr) (pm ctv : Value) (H1 : Hp), s.heap.objs.size ≤ h'.objs.size →
      Inv X pins σ H1 { s with heap := h'.push (PySem.W.kla_obj "<lambda>" (lamQ X) pr body sc (cloFrom X.env.cells sc.names []) pm c' ctv), toks := tk } →
      ExtN H H1 → Tabs T H1 → H1 c' = some (CodeO c' (lamQ X)) → H1 h'.objs.size = none →
      EP X pins σ Q (.ref h'.objs.size) { s with heap := h'.push (PySem.W.kla_obj "<lambda>" (lamQ X) pr body sc (cloFrom X.env.cells sc.names []) pm c' ctv), toks := tk } := by
    intro h' tk c' pm ctv H1 big J ext tabs hc n1
    have got : (h'.push (PySem.W.kla_obj "<lambda>" (lamQ X) pr body sc (cloFrom X.env.cells sc.names []) pm c' ctv)).get? h'.objs.size = _ := Heap.get?_push_size _ rfl
    have older : ∀ {b : Addr} {o : Obj}, s.heap.get? b = some o → b ≠ h'.objs.size := fun e => Nat.ne_of_lt (Nat.lt_of_lt_of_le (Heap.lt_size e) big)
    have n0 : X.s_0.heap.get? h'.objs.size = none := Heap.get?_none_of_le (Nat.le_trans I.sz big)
    have nL : h'.objs.size ≠ X.env.locals := Nat.ne_of_gt (Nat.lt_of_lt_of_le I.lt big)
    have np : ∀ p ∈ X.pn ++ pins, p.1 ≠ h'.objs.size := fun p hp => older (I.pin p hp).1
    have apart : ∀ b q' pr' body' sc' cl' c2, H1 b = some (CloO q' pr' body' sc' cl' c2 b) → c' ≠ b := by
      rintro b q' pr' body' sc' cl' c2 hb rfl
      obtain ⟨⟨pm2, ct2, e1⟩, _⟩ := J.hok c' _ hb
      obtain ⟨⟨oc, vs, t, e2, e3, _⟩, _⟩ := J.hok c' _ hc
      rw [e1] at e2
      cases e2
      cases e3
    refine ⟨.ref h'.objs.size, _, adopt J got (fun v z => ?_) n1 nL n0 np (cloO_ok got), rfl, h _ c' H1 ext tabs hc n1 (I.hok.fresh big) apart⟩
    cases z
  refine PySem.W.kla_eval hdef ?_
  cases among : codeAmong pos ps.toList with
  | some cv =>
    obtain ⟨c', rfl, hc'⟩ := known pos cv among
    refine PySem.W.kla_makeFunctionHit (mg := X.mg) (c := c) (P := P) (ps := ps) clOk I.ok.glob globs hcode code0 atP trip among blt0 ?_
    intro ctv h' tk keeps big
    exact fin h' tk c' _ ctv H big (I.kept fun b o e => Heap.get?_push_of_some _ (keeps b o e)) (ExtN.refl H) hT hc' (I.hok.fresh big)
  | none =>
    refine PySem.W.kla_makeFunction (mg := X.mg) (c := c) (P := P) (ps := ps) clOk I.ok.glob globs hcode code0 atP trip among TB.gP blt0 ?_
    intro c' ctv h' tk keeps ge lt rec tab
    obtain ⟨c2, oc, vs, t, e2, hoc, hd, hv⟩ := rec
    cases e2
    have big : s.heap.objs.size ≤ h'.objs.size := Nat.le_of_lt (Nat.lt_of_le_of_lt ge lt)
    have nc : H c' = none := I.hok.fresh ge
    have nPc : P ≠ c' := ne_of_none hP nc
    have J := inv_table (t' := tk) (more := #[rawInt pos.line, rawInt pos.col, .ref c']) (q := lamQ X) I hP
      (h' := h'.push (PySem.W.kla_obj "<lambda>" (lamQ X) pr body sc (cloFrom X.env.cells sc.names []) ((X.mg "__name__").getD .none) c' ctv))
      (fun b o hb e => Heap.get?_push_of_some _ (keeps b o hb e)) (Heap.get?_push_of_some _ tab) ge ⟨oc, vs, t, Heap.get?_push_of_some _ hoc, hd, hv⟩
    have ext : ExtN H (upd (upd H P (.tbl (ps ++ #[rawInt pos.line, rawInt pos.col, .ref c']))) c' (CodeO c' (lamQ X))) := by
      intro b o e notTab
      have nb : b ≠ P := by
        rintro rfl
        rw [hP] at e
        cases e
        exact notTab ps rfl
      rw [upd_ne (ne_of_none e nc), upd_ne nb]
      exact e
    have lst : (ps ++ #[rawInt pos.line, rawInt pos.col, .ref c']).toList = ps.toList ++ [rawInt pos.line, rawInt pos.col, .ref c'] := by simp
    refine fin h' tk c' _ ctv _ big J ext ?_ upd_same ?_
    · intro p hp
      by_cases hb : p.1 = P
      · refine ⟨ps ++ #[rawInt pos.line, rawInt pos.col, .ref c'], ?_, ?_, ?_⟩
        · rw [hb, upd_ne nPc, upd_same]
        · rw [lst]
          exact PySem.TriplesOk_snoc _ _ _ _ trip
        · intro p' cv hcv
          rw [hu p hp hb]
          rw [lst] at hcv
          cases among_app _ trip hcv with
          | inl z =>
            obtain ⟨c0, e1, e2⟩ := known p' cv z
            exact ⟨c0, e1, ext _ _ e2 codeO_ne⟩
          | inr z => exact ⟨c', z, upd_same⟩
      · obtain ⟨ps', a1, a2, a3⟩ := hT p hp
        refine ⟨ps', ?_, a2, ?_⟩
        · rw [upd_ne (ne_of_none a1 nc), upd_ne hb]
          exact a1
        · intro p' cv hcv
          obtain ⟨c0, e1, e2⟩ := a3 p' cv hcv
          exact ⟨c0, e1, ext _ _ e2 codeO_ne⟩
    · have n1 : h'.objs.size ≠ c' := Nat.ne_of_gt lt
      have n2 : h'.objs.size ≠ P := Nat.ne_of_gt (Nat.lt_of_lt_of_le (Heap.lt_size atP) big)
      rw [upd_ne n1, upd_ne n2]
      exact I.hok.fresh big
/-- a def that calls what it gets, a; TT: what it makes of the lambda's reading (with room for calls of its own) -/
def GivesR (X : Cx) (k : Nat) (Ng : List Str) (x : Str) (sg : Scope) (g : Addr) (cdg : Value) (bg : List Stmt) (a : Str) (q : Str) (TT : (XK → Hp → VK → Prop) → Hp → VK → Prop) : Prop :=
  ∀ (f c : Addr) (s : Shared) (H : Hp) (Q : VK) (tl : XK → Hp → VK → Prop), Room k (X.A.deeper (envOfC x sg s.heap.objs.size g cdg)) →
    (∀ (W : WX) (pn : List (Addr × Obj)) (xe : Value → Shared → Prop) (E : XK) (q1 q2 : Pos),
      Takes ((cxOf L2.CX0 X.prog X.w X.K X.mg X.base Ng x sg g cdg X.A X.stack s H L2.E0).tr pn xe) W → (∀ cls d σ' H', E cls d H' → W cls d σ' H') →
      PE ((cxOf L2.CX0 X.prog X.w X.K X.mg X.base Ng x sg g cdg X.A X.stack s H L2.E0).tr pn xe) (.Call (.Name a q1) [] [] q2)
        (fun σZ HZ Q => σZ[0]? = some (some (.ref f)) ∧ HZ c = some (CodeO c q) ∧ tl E HZ Q)) →
    H c = some (CodeO c q) → TT tl H Q →
    ∃ t, PSs (cxOf L2.CX0 X.prog X.w X.K X.mg X.base Ng x sg g cdg X.A X.stack s H L2.E0).nox bg t ∧ t { nx := fun _ H' => Q .non H', rt := Q } (L2.start Ng [.ref f]) H
/-- f(w) in a comprehension's block, w one of the frame's own lambdas, f a def that calls what it gets: the reading -/
def tCloCall {ι : Type} (X : Cx) (iw : Nat) (pr : ι → Arguments) (body : ι → Expr) (sc : ι → Scope) (t : ι → XK → TE) (TT : (XK → Hp → VK → Prop) → Hp → VK → Prop) (σ0 : L2.St) : TE := fun τ H Q =>
  ∃ (j : ι) (f c : Addr), τ[iw]? = some (some (.ref f)) ∧ H f = some (CloO (lamQ X) (pr j) (body j) (sc j) (cloFrom X.env.cells (sc j).names []) c f) ∧ H c = some (CodeO c (lamQ X)) ∧ c ≠ f ∧
    TT (fun E H' Q' => t j E σ0 H' Q') (delH H f) Q
theorem pe_clocall {ι : Type} {pins : List (Addr × Obj)} {σ0 : L2.St} {s1 : Shared} {H1 : Hp} {csc : Scope} {L : Addr} {cl : List (Str × Addr)} {fp : List Addr} (I1 : Inv X pins σ0 H1 s1) (hfp : ∀ b ∈ fp, FpOk X pins H1 b)
    {pr : ι → Arguments} {body : ι → Expr} {sc : ι → Scope} {t : ι → XK → TE} {TT : (XK → Hp → VK → Prop) → Hp → VK → Prop} {iw : Nat} {x a y : Str} {g : Addr} {k : Nat} {pg : Arguments} {bg : List Stmt} {sg : Scope} {dV kV doc pm cdv ct oc : Value} {an od : Option Addr}
    {osl : Array (Option Value)} {Ng : List Str} {p p' pos : Pos}
    (hg : Gl (Bk X csc s1 H1 L cl fp) x) (hm : X.mg x = some (.ref g)) (hk : PySem.W.keepIn X.K (.ref g) = true)
    (lk : X.K.lookup g = some ⟨oc, od, .func (PySem.W.fnOf x x pg bg sg dV kV doc pm an cdv ct), osl⟩) (hcg : PySem.W.codeIn X.K cdv x = true) (hb : L2.Binds X.K (PySem.W.fnOf x x pg bg sg dV kV doc pm an cdv ct) [a] [])
    (Sg : FnScope Ng [a] sg) (hNg : Ng[0]? = some a) (hva : Vis sg a) (hG : GivesR X (k + 1) Ng x sg g cdv bg a (lamQ X) TT) (hr : Room (k + 2) X.A)
    (hL : ∀ j, LamS X.env.scope (sc j)) (hbind : ∀ (j : ι) (q : Str) (cl : List (Str × Addr)) (pm cv ctv : Value), bindArgs (PySem.W.kla_fn "<lambda>" q (pr j) (body j) (sc j) cl pm cv ctv) ⟨[], []⟩ = pure [])
    (hbody : ∀ (j : ι) (A : Around) (outer : List Env) (s : Shared) (H : Hp) (E : XK) (f c : Addr), Room k (A.deeper (lamEnv X (sc j) s.heap.objs.size f c)) → PE (lamCx X A outer s H E (sc j) f c) (body j) (t j E))
    (hw : PE (Bk X csc s1 H1 L cl fp) (.Name y p') (tVar iw))
    (hdb : (x == ("__debug__" : Str)) = false := by decide) (hd : (a == ("__debug__" : Str)) = false := by decide) (hcd : (a == ("__classdict__" : Str)) = false := by decide) :
    PE (Bk X csc s1 H1 L cl fp) (.Call (.Name x p) [.Name y p'] [] pos) (tCloCall X iw pr body sc t TT σ0) := by
  constructor
  rintro pj s τ H Q B ⟨j, f, c, slot, clo, code, neC, h⟩
  refine wpAny_Call_Name_kw (ld_glob B hg hm ?_ hdb)
  have args : PA (Bk X csc s1 H1 L cl fp) [.Name y p'] (tCons (tVar iw) tNil) := pa_cons hw pa_nil
  refine PySem.W.callWith_K (h₀ := X.base) B.ok.mod.kin hk (thn (args.run pos pj s τ H (fun vs G => vs = [.ref f] ∧ G = H) B ⟨.ref f, slot, rfl, rfl⟩) ?_) (by rfl) (by rfl)
  rintro us s2 ⟨vs, G, B2, rel, rfl, rfl⟩
  refine ⟨B2.kIn, ?_⟩
  cases rel with
  | cons r0 rn =>
    cases rn
    cases r0
    have B3 := letgo B2 clo
    obtain ⟨⟨pm', ctv', got⟩, _⟩ := B2.hok f _ clo
    have offF : f ∉ frs X.stack := by
      intro hm'
      have z := B2.stkFree f hm'
      rw [clo] at z
      cases z
    have Iout : Inv X pins σ0 (delH G f) s2 := out_of I1 hfp B3
    have rc : codeAny (model X.prog X.w) X.A (.call (.ref g) ⟨[.ref f], []⟩) (CR L2.CX0 X.stack X.prog X.w (delH G f) s2 Q L2.E0) s2 := by
      refine run_ofS (N := Ng) (ps := [a]) (us := [.ref f]) (vs := [.ref f]) lk hcg Sg hr B3.env0 (hb s2 [.ref f] B3.kIn rfl) (.cons rfl .nil) rfl ?_
      intro hr'
      obtain ⟨t', ht', hq'⟩ := hG f c s2 (delH G f) Q (fun E H' Q' => t j E σ0 H' Q') hr'
        (fun W pn xe E q1 q2 tk hW => pe_act (i := 0) Iout (hL j) got delH_same offF (hbind j _ _ _ _ _) tk hW hr' (fun A outer s H hr2 => hbody j A outer s H E f c hr2) hNg hva hd hcd)
        (by rw [delH_ne neC]; exact code) h
      exact ⟨t', ht'.nox, hq'⟩
    refine wpAny_call (codeAny_mono rc ?_)
    rintro r s3 hq
    cases r with
    | error e => exact (show False from hq).elim
    | ok fl =>
      cases fl with
      | ret u => exact B3.after hq
      | next => exact False.elim hq
      | brk => exact False.elim hq
      | cont => exact False.elim hq
end
end L2X
namespace Dt
open PySem PySem.Spec PyProof.Rows L2 L2X LamX
theorem takesLen {X : Cx} {W : WX} (tk : Takes X W) : Takes X (fun cls d σ H => σ.length = X.N.length → W cls d σ H) := by
  rintro u s' ⟨a, B, sI, pins, σ, H, cls, d, e, I, nb, up, sky, na, os, ag, w⟩
  exact tk u s' ⟨a, B, sI, pins, σ, H, cls, d, e, I, nb, up, sky, na, os, ag, w I.len⟩
end Dt
/-! the end of a law whose own body asks who is around it: the law is run at its caller alone -/
namespace L2X
open PySem PySem.Spec PyProof.Rows L2 LamX
abbrev tabO : Obj := { cls := .none, data := .fields #[] }
abbrev lstO (vs : List Value) : Obj := { cls := .type "list", data := .seq vs.toArray }
/-- what is under watch when the law begins: the tables; the script, if the written part has it not -/
def beginH (K : PySem.W.Frag) (cs : List (Addr × Addr)) (a : Addr) (vs : List Value) (ns : List Int) : Hp := fun b =>
  if b ∈ cs.map (·.2) then some (.tbl #[]) else if b = a ∧ K.lookup a = none then some (.frz (lstO vs) (.lst (ns.map V.int))) else none
section
variable {P : Program} {w : World} {K : PySem.W.Frag} {mg mb : Str → Option Value} {fa a : Addr} {cs : List (Addr × Addr)} {s : Shared} {vs : List Value} {ns : List Int}
theorem begin_tab {p : Addr × Addr} (hp : p ∈ cs) : beginH K cs a vs ns p.2 = some (.tbl #[]) := by
  unfold beginH
  exact if_pos (List.mem_map.mpr ⟨p, hp, rfl⟩)
theorem begin_some {b : Addr} {u : HO} (e : beginH K cs a vs ns b = some u) : (b ∈ cs.map (·.2) ∧ u = .tbl #[]) ∨ (b = a ∧ K.lookup a = none ∧ u = .frz (lstO vs) (.lst (ns.map V.int))) := by
  unfold beginH at e
  split at e
  · rename_i h
    exact .inl ⟨h, (Option.some.inj e).symm⟩
  · split at e
    · rename_i h
      exact .inr ⟨h.1, h.2, (Option.some.inj e).symm⟩
    · cases e
theorem begin_none (hT : ∀ p ∈ cs, s.heap.get? p.2 = some tabO) (ha : s.heap.get? a = some (lstO vs)) {b : Addr} {o : Obj} (e : s.heap.get? b = some o) (n1 : o ≠ tabO) (n2 : o ≠ lstO vs) : beginH K cs a vs ns b = none := by
  cases q : beginH K cs a vs ns b with
  | none => rfl
  | some u =>
    exfalso
    rcases begin_some q with ⟨hm, _⟩ | ⟨rfl, _, _⟩
    · obtain ⟨p, hp, rfl⟩ := List.mem_map.mp hm
      rw [hT p hp] at e
      exact n1 (Option.some.inj e).symm
    · rw [ha] at e
      exact n2 (Option.some.inj e).symm
theorem law_callG (KX : K.In s.heap) (hns : s.heap.Ns mainGlobals mg) (hb : s.heap.Ns builtinsNs mb) (hbb : ∀ x : Str, x ≠ "__name__" → mb x = bootBuiltins x) (hlim : s.heap.NoLimit) (hg : s.gens = #[])
    (hT : ∀ p ∈ cs, s.heap.get? p.2 = some tabO) (nT : ∀ p ∈ cs, K.lookup p.2 = none) (C : ∀ p ∈ cs, PySem.W.CodeHd s.heap p.1 p.2)
    (hbm : ∃ (bm : Addr) (ob : Obj), mg "__builtins__" = some (.ref bm) ∧ bm ≠ builtinsNs ∧ s.heap.get? bm = some ob ∧ ob.cls = .type "module" ∧ ob.dict = some builtinsNs ∧ ob.data = .plain)
    (ha : s.heap.get? a = some (lstO vs)) (hi : IntsAre vs ns) (hl : ns.length ≤ sizeLine)
    (run : ∀ (base : Heap) (H : Hp), K.In base → base.Ns mainGlobals mg → (∀ p ∈ cs, TabB base mg p.1 p.2) → (∀ p ∈ cs, H p.2 = some (.tbl #[])) → SqL K H a (ns.map V.int) → Env0 P w K mg base callerA [] s H →
      codeAny (model P w) callerA (.call (.ref fa) ⟨[.ref a], []⟩) (CR L2.CX0 [] P w H s (fun v _ => v = .bl true) L2.E0) s) :
    codeAny (model P w) callerA (.call (.ref fa) ⟨[.ref a], []⟩) (fun r s' => r = .ok (.ret (.bool true)) ∧ OldK s.heap s'.heap ∧ s'.os = s.os ∧ AllBare s'.gens) s := by
  have rv := vals_ints hi
  have lv := hi.length
  generalize eH : beginH K cs a vs ns = H
  have tabs : ∀ p ∈ cs, H p.2 = some (.tbl #[]) := fun p hp => by rw [← eH]; exact begin_tab hp
  have off : ∀ {b : Addr} {o : Obj}, s.heap.get? b = some o → o ≠ tabO → o ≠ lstO vs → H b = none := fun e n1 n2 => by rw [← eH]; exact begin_none hT ha e n1 n2
  have isT : ∀ {b : Addr}, b ∈ cs.map (·.2) → s.heap.get? b = some tabO := by
    intro b hm
    obtain ⟨p, hp, rfl⟩ := List.mem_map.mp hm
    exact hT p hp
  have aT : a ∉ cs.map (·.2) := by
    intro hm
    have z := isT hm
    rw [ha] at z
    cases z
  -- the ground
  have nsK : ∀ {b : Addr} {m : Str → Option Value}, s.heap.Ns b m → (hidT s.heap H).Ns b m := by
    rintro b m ⟨o, es, ep, e, d, r⟩
    refine ⟨o, es, ep, hidT_get e (off e ?_ ?_), d, r⟩ <;> (rintro rfl; cases d)
  have inK : K.In (hidT s.heap H) := by
    intro b o e
    refine hidT_get (KX b o e) ?_
    cases q : H b with
    | none => rfl
    | some u =>
      exfalso
      rw [← eH] at q
      rcases begin_some q with ⟨hm, _⟩ | ⟨rfl, hk, _⟩
      · obtain ⟨p, hp, rfl⟩ := List.mem_map.mp hm
        rw [nT p hp] at e
        cases e
      · rw [hk] at e
        cases e
  have mod : L2.Mod K mg (hidT s.heap H) := by
    obtain ⟨mc, h1, h2⟩ := hlim
    exact ⟨inK, nsK hns, ⟨mb, nsK hb, hbb⟩, ⟨mc, nsK h1, h2⟩⟩
  have tabB : ∀ p ∈ cs, TabB (hidT s.heap H) mg p.1 p.2 := by
    intro p hp
    have tp := hT p hp
    obtain ⟨og, es, ep, gg, gd, _⟩ := id hns
    constructor
    · obtain ⟨o, us, file, tf, flags, tg, inF, text, tt, e1, r1, r2, r3, r4, r5, r6, r7, r8, hne⟩ := C p hp
      refine ⟨o, us, file, tf, flags, tg, inF, text, tt, hidT_get e1 (off e1 ?_ ?_), r1, r2, r3, r4, r5, r6, r7, r8, hne⟩
      · rintro rfl
        cases r2
        simp at r3
      · rintro rfl
        cases r2
    · obtain ⟨bm, ob, b1, b2, b3, b4, b5, b6⟩ := hbm
      refine ⟨bm, ob, b1, b2, ?_, ?_, hidT_get b3 (off b3 ?_ ?_), b4, b5, b6⟩
      · rintro rfl
        rw [gg] at b3
        cases b3
        rw [gd] at b6
        cases b6
      · rintro rfl
        rw [tp] at b3
        cases b3
        cases b6
      · rintro rfl
        cases b6
      · rintro rfl
        cases b6
    · intro z
      rw [z, tp] at gg
      cases gg
      cases gd
  have hokH : HOk P w H s.heap := by
    intro b u e
    rw [← eH] at e
    rcases begin_some e with ⟨hm, rfl⟩ | ⟨rfl, _, rfl⟩
    · exact isT hm
    · exact ⟨ha, by rw [List.length_map]; exact hl, vs, _, rv, ha⟩
  have sq : SqL K H a (ns.map V.int) := by
    cases hk : K.lookup a with
    | some o =>
      have z := KX a o hk
      rw [ha] at z
      cases z
      exact .inr ⟨_, vs.toArray, _, hk, rfl, rfl, rfl, by rw [List.size_toArray, lv]; exact hl, by simpa using rv⟩
    | none =>
      refine .inl (.inr ⟨lstO vs, ?_⟩)
      rw [← eH]
      unfold beginH
      rw [if_neg aT, if_pos ⟨rfl, hk⟩]
  have e0 : Env0 P w K mg (hidT s.heap H) callerA [] s H :=
    by
    constructor
    · rfl
    · exact mod
    · exact fun b o e => of_hidT e
    · exact Nat.le_of_eq (hidT_size _ _)
    · trivial
    · exact fun b hb => nomatch (show b ∈ ([] : List Addr) from hb)
    · exact hokH
    · exact .of_eq hg
  refine codeAny_mono (run _ H inK (nsK hns) tabB tabs sq e0) ?_
  rintro r s' h
  cases r with
  | error e => exact (show False from h).elim
  | ok fl =>
    cases fl with
    | next => exact False.elim h
    | brk => exact False.elim h
    | cont => exact False.elim h
    | ret u =>
      obtain ⟨v, H', os, bare, un, hok', rr, rfl⟩ := h
      obtain rfl : u = Value.bool true := rr
      have stay : ∀ b o, b ∉ cs.map (·.2) → s.heap.get? b = some o → s'.heap.get? b = some o := by
        intro b o nb e
        cases q : H b with
        | none => exact un.keep b o e q (fun z => nomatch z) (fun z => nomatch z)
        | some u =>
          have q2 := q
          rw [← eH] at q2
          rcases begin_some q2 with ⟨hm, _⟩ | ⟨rfl, _, rfl⟩
          · exact absurd hm nb
          · obtain ⟨z, _⟩ := hok' _ _ (un.frzs _ _ _ q)
            rw [ha] at e
            cases e
            exact z
      have grow : ∀ p ∈ cs, ∃ more : Array Value, s'.heap.get? p.2 = some { cls := .none, data := .fields more } := by
        intro p hp
        obtain ⟨more, z⟩ := un.tbls p.2 #[] (tabs p hp)
        exact ⟨_, hok' p.2 _ z⟩
      refine ⟨rfl, ⟨fun b o e => ?_, fun b o e => ?_⟩, os, bare⟩
      · by_cases hb : b ∈ cs.map (·.2)
        · obtain ⟨p, hp, rfl⟩ := List.mem_map.mp hb
          obtain ⟨more, hm⟩ := grow p hp
          rw [hT p hp] at e
          cases e
          exact .inr (.inl ⟨((C p hp).tab (hT p hp)).isCodeTable, rfl, #[], more, rfl, by rw [Array.empty_append]; exact hm⟩)
        · exact .inl (stay b o hb e)
      · by_cases hb : b ∈ cs.map (·.2)
        · obtain ⟨p, hp, rfl⟩ := List.mem_map.mp hb
          obtain ⟨more, hm⟩ := grow p hp
          exact ⟨_, hm⟩
        · exact ⟨o, stay b o hb e⟩
end
end L2X
/-! a lambda handed straight to a def that calls what it gets, with room for calls of its own; list.count of data -/
namespace L2X
open PySem PySem.Spec PyProof.Rows L2 LamX
section
variable {X : Cx}
theorem pe_lamcallR {T : List (Addr × Str)} {TT : (XK → Hp → VK → Prop) → Hp → VK → Prop} {x a : Str} {g c P : Addr} {k : Nat} {pg : Arguments} {bg : List Stmt} {sg : Scope} {dV kV doc pm cdv ct oc : Value} {an od : Option Addr} {osl : Array (Option Value)} {Ng : List Str}
    {params : Arguments} {body : Expr} {scope : Scope} {t : XK → TE} {p lpos pos : Pos} (hg : Gl X x) (hm : X.mg x = some (.ref g)) (hk : PySem.W.keepIn X.K (.ref g) = true)
    (lk : X.K.lookup g = some ⟨oc, od, .func (PySem.W.fnOf x x pg bg sg dV kV doc pm an cdv ct), osl⟩) (hcg : PySem.W.codeIn X.K cdv x = true) (hb : L2.Binds X.K (PySem.W.fnOf x x pg bg sg dV kV doc pm an cdv ct) [a] []) (Sg : FnScope Ng [a] sg) (hNg : Ng[0]? = some a) (hva : Vis sg a)
    (hG : GivesR X (k + 1) Ng x sg g cdv bg a (lamQ X) TT)
    (TB : TabB X.base X.mg c P) (hcode : X.env.code = .ref c) (hmT : (P, lamQ X) ∈ T) (hu : ∀ p ∈ T, p.1 = P → p.2 = lamQ X) (hr : Room (k + 2) X.A) (L : LamS X.env.scope scope) (hdef : defaultsOf params X.env = ([], []))
    (hbind : ∀ (q : Str) (cl : List (Str × Addr)) (pm cv ctv : Value), bindArgs (PySem.W.kla_fn "<lambda>" q params body scope cl pm cv ctv) ⟨[], []⟩ = pure [])
    (hbody : ∀ (A : Around) (outer : List Env) (s : Shared) (H : Hp) (E : XK) (f c' : Addr), Room k (A.deeper (lamEnv X scope s.heap.objs.size f c')) → PE (lamCx X A outer s H E scope f c') body (t E))
    (hdb : (x == ("__debug__" : Str)) = false := by decide) (hd : (a == ("__debug__" : Str)) = false := by decide) (hcd : (a == ("__classdict__" : Str)) = false := by decide) :
    PE X (.Call (.Name x p) [.Lambda params body scope lpos] [] pos) (tLam T TT t) := by
  constructor
  rintro pins s σ H Q I ⟨hT, h⟩
  refine wpAny_Call_Name_kw (ld_glob I hg hm ?_ hdb)
  refine PySem.W.callWith_K (h₀ := X.base) I.ok.mod.kin hk ?_ (by rfl) (by rfl)
  show wpAny _ _ (spliced ((false, eval (.Lambda params body scope lpos) X.env) :: backTo pos (starEach [] X.env))) _ _ s
  refine Calls.spliced_cons (lam_make2 I TB hcode hmT hu hT hdef (L.has I.ok) fun f c' pm' ctv H1 s' I1 eN T1 hf hfn hfr hco => ?_)
  refine Calls.spliced_nil ⟨I1.kIn, ?_⟩
  have rc : codeAny (model X.prog X.w) X.A (.call (.ref g) ⟨[.ref f], []⟩) (CR L2.CX0 X.stack X.prog X.w H1 s' Q L2.E0) s' := by
    refine run_ofS (N := Ng) (ps := [a]) (us := [.ref f]) (vs := [.ref f]) lk hcg Sg hr I1.env0 (hb s' [.ref f] I1.kIn rfl) (.cons rfl .nil) rfl ?_
    intro hr'
    obtain ⟨t', ht', hq'⟩ := hG f c' s' H1 Q (fun E H' Q' => t E σ H' Q') hr'
      (fun W pn xe E p1 p2 tk hW => pe_act (i := 0) I1 L hf hfn hfr (hbind _ _ _ _ _) tk hW hr' (fun A outer s H hr2 => hbody A outer s H E f c' hr2) hNg hva hd hcd) hco (h H1 eN T1)
    exact ⟨t', ht'.nox, hq'⟩
  refine wpAny_call (codeAny_mono rc ?_)
  rintro r s2 hq
  cases r with
  | error e => exact (show False from hq).elim
  | ok fl =>
    cases fl with
    | ret u => exact I1.after hq
    | next => exact False.elim hq
    | brk => exact False.elim hq
    | cont => exact False.elim hq
/-- l.count(x) of data -/
def rCountD (K : PySem.W.Frag) : V → List V → Hp → VK → Prop := fun x xs H Q => ∃ (a : Addr) (y : V) (d : PyData) (ds : List PyData), x = V.ref a ∧ xs = [y] ∧ Dp K H (V.ref a) (.list ds) ∧ Dp K H y d ∧
  SeqAt.shaped (.list ds) = true ∧ SeqAt.shaped d = true ∧ Q (.int (ds.countP fun z => PyData.eqv z d : Nat)) H
theorem mt_countD (hu : X.A.units + 65 < cLine) : MtR X "list.count" (rCountD X.K) := by
  intro pins s σ H x xs v us Q I rx rxs h
  obtain ⟨a, y, d, ds, rfl, rfl, hl, hy, sl, sd, q⟩ := h
  cases rx
  obtain ⟨uy, rfl, ry⟩ := rxs.one
  obtain ⟨bs, r1⟩ := Dp.reads I d y uy hy ry
  have hxs : PyData.canLayAll0 ds = true := SeqAt.canLay_of_shaped sl
  have hroom : X.A.units + 1 + min (PyData.depthAll ds) d.depth < cLine := room_in_shaped sd hu
  cases hl with
  | lst hs ha =>
    obtain ⟨its, rv, ⟨⟨cls, dd, data, sls⟩, n, ho, hc, hdn, hdt⟩, hlen⟩ := I.list hs
    simp only at hc hdt
    subst hc hdt
    obtain ⟨as, h4⟩ := Dp.readsAll I ds _ its ha rv
    have hmap : its.map (SeqAt.readOf s.heap) = ds := SeqAt.readsAll_map ds its as hxs h4
    refine call_meets PySem.F.slot_list_count ⟨_, ho, rfl⟩ PySem.F.entry_list_count (PySem.F.args_list_count_2 _ _)
      (SeqAt.list_countAt a its.toArray n dd sls uy (fun u => PyData.eqv (SeqAt.readOf s.heap u) d)) ⟨ho, SeqAt.items_eqAt (vs := its.toArray) (show ReadsAll s.heap its.toArray.toList ds as from h4) r1 hxs (SeqAt.canLay_of_shaped sd) hroom, ?_⟩
    have ec : its.toArray.toList.countP (fun u => PyData.eqv (SeqAt.readOf s.heap u) d) = ds.countP fun z => PyData.eqv z d := by
      rw [← hmap, List.countP_map]
      rfl
    refine ⟨.int (ds.countP fun z => PyData.eqv z d : Nat), H, I.tok _, ⟨s.toks, ?_⟩, q⟩
    show Value.int ((its.toArray.toList.countP (fun u => PyData.eqv (SeqAt.readOf s.heap u) d) : Nat) : Int) s.toks = Value.int ((ds.countP fun z => PyData.eqv z d : Nat) : Int) s.toks
    rw [ec]
end
end L2X
/-! kept exceptions, with or without a field -/
namespace L2X
open PySem PySem.Spec PyProof.Rows L2
/-- a kept exception stands at a, of the class at D; its dict, if it has one -/
def KX (H : Hp) (a D : Addr) (d : Option Addr) : Prop := H a = some (ExI (.ref D) d a) ∧ (d = none ∨ ∃ dd fs, d = some dd ∧ H dd = some (.xd fs))
theorem KX.same {H H' : Hp} {a D : Addr} {d : Option Addr} (h : KX H a D d) (s : Same H H') : KX H' a D d :=
  ⟨s _ _ h.1, h.2.imp id fun ⟨dd, fs, e, q⟩ => ⟨dd, fs, e, s _ _ q⟩⟩
theorem kx_kit {X : Cx} {pins : List (Addr × Obj)} {σ : L2.St} {H : Hp} {s : Shared} {a D : Addr} {d : Option Addr} (I : Inv X pins σ H s) (C : ExcC X.K D) (h : KX H a D d) :
    ∃ Pp : Heap → Prop, PySem.W.KitX X.K (.ref a) (.ref D) Pp ∧ Pp s.heap := by
  obtain ⟨ha, hd⟩ := h
  obtain ⟨⟨oe, got, ⟨zc, zd⟩, vs, hv⟩, _⟩ := I.hok a _ ha
  rcases hd with rfl | ⟨dd, fs, rfl, hd⟩
  · have J : PySem.W.InstAt s.heap a oe D none := ⟨got, zc, by unfold PySem.W.notCls; rw [hv], by rw [zd]; trivial⟩
    exact ⟨_, PySem.W.handS_kitx_exc C.hg C.hk C.hs C.hd C.ha C.hn C.ht C.hm, J⟩
  · have hx : ObjOk X.prog X.w H s.heap dd (.xd fs) := I.hok dd _ hd
    obtain ⟨mA, hns, _⟩ := hx
    obtain ⟨od, ho, _⟩ := lookIn_ns hns
    have J : PySem.W.InstAt s.heap a oe D (some od) := ⟨got, zc, by unfold PySem.W.notCls; rw [hv] <;> rfl, by rw [zd]; exact ho⟩
    have hcl : (PySem.W.clsIn X.K D).isSome = true := by
      cases hc : PySem.W.clsIn X.K D with
      | some cd => rfl
      | none =>
        have := C.hd
        unfold PySem.W.hasDictIn at this
        rw [hc] at this
        cases this
    exact ⟨_, PySem.W.kitx_exc hcl C.hg C.hk C.hs C.ha C.hn C.ht C.hm, J⟩
/-- isinstance(e, c), e a kept exception -/
def rIsY (K : PySem.W.Frag) : List V → Hp → VK → Prop := fun xs H Q => ∃ (a D : Addr) (d : Option Addr) (c : V) (cv : Value) (b : Bool), xs = [.ref a, c] ∧ KX H a D d ∧ ExcC K D ∧ (∀ u, RelV c u → u = cv) ∧ PySem.W.kitOne K (.ref D) cv = some b ∧ Q (.bl b) H
theorem call_isY {X : Cx} : CallR X (.builtin "isinstance") (rIsY X.K) := by
  intro pins s σ H xs us Q I r h
  obtain ⟨a, D, d, c, cv, b, rfl, ha, C, hcv, e, q⟩ := h
  cases r with
  | cons rx rr =>
    cases rr with
    | cons rt rr =>
      cases rr
      cases rx
      have ec := hcv _ rt
      subst ec
      obtain ⟨Pp, Z, p⟩ := kx_kit I C ha
      exact PySem.W.kia_one Z I.kIn p e (fun z => nomatch z) fun tk => ⟨.bl b, H, I.kept (t' := tk) fun _ _ z => z, rfl, q⟩
/-- .. of a tuple of classes -/
def rIsYT (K : PySem.W.Frag) : List V → Hp → VK → Prop := fun xs H Q => ∃ (a D : Addr) (d : Option Addr) (tp : Addr) (cs : List V) (us : List Value) (b : Bool), xs = [.ref a, .ref tp] ∧ KX H a D d ∧ ExcC K D ∧ H tp = some (.tup cs) ∧ Paired ClsV cs us ∧ PySem.W.kitAny K (.ref D) us = some b ∧ Q (.bl b) H
theorem call_isYT {X : Cx} : CallR X (.builtin "isinstance") (rIsYT X.K) := by
  intro pins s σ H xs us Q I r h
  obtain ⟨a, D, d, tp, cs, ws, b, rfl, ha, C, hT, k, e, q⟩ := h
  obtain ⟨u1, u2, rfl, r1, r2⟩ := vals2 r
  cases (show u1 = Value.ref a from r1)
  cases (show u2 = Value.ref tp from r2)
  obtain ⟨Pp, Z, p⟩ := kx_kit I C ha
  obtain ⟨_, its, rv, o, h1, h2, n, h3⟩ := (show ObjOk X.prog X.w H s.heap tp (.tup cs) from I.hok tp _ hT)
  have e3 := ClsV.all k rv
  subst e3
  obtain ⟨oc, od, dt, sl⟩ := o
  simp only at h2 h3
  subst h2 h3
  exact PySem.W.kia_tup Z I.kIn p h1 e (fun z => nomatch z) fun tk => ⟨.bl b, H, I.tok tk, rfl, q⟩
/-- the field of a kept exception -/
def tYf (C : Addr) (f : Str) (te : TE) : TE := fun σ H Q => te σ H fun x H1 => ∃ (a dd : Addr) (fs : List (Str × V)) (v : V), x = .ref a ∧ H1 a = some (ExI (.ref C) (some dd) a) ∧ H1 dd = some (.xd fs) ∧ fs.lookup f = some v ∧ Q v H1
theorem pe_yf {X : Cx} {C : Addr} {e : Expr} {te : TE} {pos : Pos} {n : Str} (T : XfC X.K C) (hno : PySem.W.findIn X.K (.ref C) n = some none) (he : PE X e te) (hb : attributeBase e n X.env (eval e X.env) = eval e X.env := by rfl) :
    PE X (.Attribute e n pos) (tYf C n te) := by
  refine ⟨fun pins s σ H Q I h => ?_⟩
  refine attr_of hb (thn (he.run pins s σ H _ I h) fun u s1 hh => ?_)
  obtain ⟨x, H1, I1, rx, a, dd, fs, v, ex, ea, ed, l, q⟩ := hh
  subst ex
  obtain rfl : u = Value.ref a := rx
  obtain ⟨⟨oe, got, ⟨zc, zd⟩, vs, hv⟩, _⟩ := I1.hok a _ ea
  have hx : ObjOk X.prog X.w H1 s1.heap dd (.xd fs) := I1.hok dd _ ed
  obtain ⟨mA, hns, hr⟩ := hx
  obtain ⟨od, ho, hl⟩ := lookIn_ns hns
  obtain ⟨u, hu, ru⟩ := RelO.some_of (v := v) (o := mA n) (by rw [← l]; exact hr n)
  have J : PySem.W.InstAt s1.heap a oe C (some od) := ⟨got, zc, by unfold PySem.W.notCls; rw [hv] <;> rfl, by rw [zd]; exact ho⟩
  exact HandSPX.exc_get I1.kIn J T.ga T.gg T.exC (PySem.W.findObj_own T.hdC hno rfl (by rw [hl, hu])) (handed_of ru) ⟨v, H1, I1.tok _, ru, q⟩
end L2X
namespace Dt
open PySem PySem.Spec PyProof.Rows L2 L2X
open SX (S)
/-! ### TooMany and its field -/
abbrev sTM : Stmt := inClass (topS 13) 0
theorem scTM : FnScope ["self", "most"] ["self", "most"] (defScope sTM) := ⟨rfl, rfl, rfl, by decide +kernel, rfl, by decide +kernel, by decide +kernel⟩
def spTM (C : Addr) : Sp := fun vs H Q _ => ∃ (a : Addr) (v : V), vs = [.ref a, v] ∧ H a = some (exo a C none) ∧ ∀ dx, H dx = none → dx ≠ a → Q .non (upd (upd H dx (exd dx [("most", v)])) a (exo a C (some dx)))
/-- the class TooMany as the top has made it -/
structure Ttm (K : PySem.W.Frag) (mg : Str → Option Value) (C : Addr) : Prop where
  g : mg "TooMany" = some (.ref C)
  o : OexC K C
  no : PySem.W.findIn K (.ref C) "most" = some none
  fi : ∃ fI fd, PySem.W.findIn K (.ref C) "__init__" = some (some (.ref fI)) ∧ PySem.W.typeIn K (.ref fI) = some (.type "function") ∧ Fun K "__init__" "TooMany.__init__" sTM fI fd ∧ Binds K fd ["self", "most"] []
/-- it leaves with this in its field -/
def RaiseM (E : XK) (C : Addr) (v : V) (H : Hp) : Prop := ∀ d H', Same H H' → H d = none → H' d = some (.xd [("most", v)]) → E (.ref C) (some d) H'
theorem RaiseM.same {E : XK} {C : Addr} {v : V} {H H' : Hp} (h : RaiseM E C v H) (s : Same H H') : RaiseM E C v H' := fun d H2 s2 n e => h d H2 (s.trans s2) (s.free n) e
theorem raiseM_by {E : XK} {C : Addr} {v : V} {H : Hp} (h : RaiseM E C v H) : [v].length ≤ 1000 ∧ ∀ a, H a = none → spTM C (.ref a :: ([v] ++ [])) (upd H a (exo a C none))
    (fun u H2 => u = .non ∧ ∃ (d : Addr) (fs : List (Str × V)), H2 a = some (exo a C (some d)) ∧ H2 d = some (exd d fs) ∧ H d = none ∧ E (.ref C) (some d) (upd (del H2 a) d (.xd fs))) (fun _ _ _ => False) := by
  refine ⟨by show 1 ≤ 1000; decide, fun a ha => ⟨a, v, rfl, upd_same, fun dx hd ne => ⟨rfl, dx, [("most", v)], upd_same, ?_, ?_, ?_⟩⟩⟩
  · rw [upd_ne ne, upd_same]
  · rw [upd_ne ne] at hd
    exact hd
  · rw [upd_ne ne] at hd
    refine h dx _ (fun b o e => ?_) hd upd_same
    rw [upd_ne (ne_of_none e hd), del_ne (ne_of_none e ha), upd_ne (ne_of_none e ha), upd_ne (ne_of_none e hd), upd_ne (ne_of_none e ha)]
    exact e
section
variable {P : Program} {w : World} {K : PySem.W.Frag} {mg : Str → Option Value} {base : Heap} {C : Addr}
theorem ok_tm {f : Addr} {fd : FuncData} {k : Nat} (F : Fun K "__init__" "TooMany.__init__" sTM f fd) (o : OexC K C) (no : PySem.W.findIn K (.ref C) "most" = some none) : FnOk P w K mg base CX0 (k + 1) f fd ["self", "most"] (spTM C) := by
  refine F.ok scTM (fun vs H Q E h => ?_) (fun cdv A outer s H vs Q E hr h => ?_)
  · obtain ⟨a, v, rfl, _⟩ := h
    rfl
  · obtain ⟨a, v, rfl, ha, q⟩ := h
    refine ⟨_, pss_one (ps_ost (pv 0) (pv 1)), ?_⟩
    exact ⟨v, rfl, .ref a, rfl, a, C, rfl, o, no, .inl ⟨ha, fun dx hd ne => q dx hd ne⟩⟩
end
end Dt
namespace L2X
open PySem PySem.Spec PyProof.Rows L2
/-- what a frame takes, its callee may let out -/
theorem passE {X : Cx} {E : XK} (tk : Takes X (fun cls d _ H => E cls d H)) : Passes (L2.CX X.prog X.w) X E := fun pins σ H s e s' I h => passAt tk σ pins H s e s' I h
end L2X
namespace L2X
open PySem PySem.Spec PyProof.Rows L2 LamX
/-! ### len(x) of an own class -/
def rLenO (C : Addr) (sp : Sp) : List V → Hp → VK → Prop := fun xs H Q => ∃ (a dx : Addr) (fs : List (Str × V)), xs = [.ref a] ∧ H a = some (.ins C dx fs) ∧ sp [.ref a] H (fun v H' => ∃ n : Nat, v = .int n ∧ n < 1000000 ∧ Q (.int n) H') E0
theorem call_lenO {X : Cx} {k : Nat} {f C : Addr} {fd : FuncData} {sp : Sp} (F : FnOk X.prog X.w X.K X.mg X.base CX0 k f fd ["self"] sp) (hr : Room (k + 1) X.A) (hm : Meth X.K C "__len__" f) (hb : Binds X.K fd ["self"] []) : CallR X (.builtin "len") (rLenO C sp) := by
  intro pins s σ H xs us Q I r h
  obtain ⟨a, dx, fs, rfl, ea, q⟩ := h
  obtain ⟨u, rfl, ru⟩ := vals1 r
  obtain rfl : u = Value.ref a := ru
  obtain ⟨mA, O, _⟩ := ins_get I.hok ea
  obtain ⟨od, J, _⟩ := O.look
  obtain ⟨m, fr⟩ := I.fr
  refine PySem.W.len_K fr I.ok.mod.kin J hm.at_ hm.fn (wpAny_call (codeAny_mono (F.run X.A.in1 X.stack s H ⟨[.ref a], []⟩ [.ref a] [.ref a] _ E0 hr.in1 I.env0.in1 (hb _ [.ref a] I.kIn rfl) (.cons rfl .nil) q) fun r s' hq => ?_))
  cases r with
  | error e => exact hq.elim
  | ok fl =>
    cases fl with
    | ret u =>
      obtain ⟨v, H', I3, rv, n, rfl, hn, q3⟩ := I.after hq
      obtain ⟨t, rfl⟩ := rv
      exact ⟨⟨Int.natCast_nonneg n, by omega⟩, .int n, H', I3.tok _, ⟨_, rfl⟩, q3⟩
    | next => exact False.elim hq
    | brk => exact False.elim hq
    | cont => exact False.elim hq
/-! ### f(e, .., k=e), f a name that holds one of two defs -/
section
variable {X : Cx} {CX : CXT} {k n i : Nat} {f : Addr} {fd : FuncData} {ps ks : List Str} {sp : Sp} {g : List Value → List Value → List Value} {gV : List V → List V → List V} {E : XK} {x : Str} {p pos : Pos} {e : Expr} {es : List Expr} {kws : List Keyword} {t tk : TA}
def tCallLN (i : Nat) (f : Addr) (n m : Nat) (sp : Sp) (gV : List V → List V → List V) (E : XK) (t tk : TA) : TE := fun σ H Q => σ[i]? = some (some (.ref f)) ∧ tCallN n m sp gV E t tk σ H Q
theorem pe_callLN (F : FnOk X.prog X.w X.K X.mg X.base CX k f fd ps sp) (hr : Room k X.A) (hN : X.N[i]? = some x) (hv : Vis X.env.scope x) (hk : PySem.W.keepIn X.K (.ref f) = true) (hb : KBn X.K fd ps n ks g gV) (hx : Passes CX X E)
    (ha : PA X (e :: es) t) (hkw : PK X kws tk) (hall : (backToKw pos (keywordEach kws X.env)).all (·.1.isSome) = true := by rfl) (hks : (backToKw pos (keywordEach kws X.env)).filterMap (·.1) = ks := by rfl)
    (hdb : (x == ("__debug__" : Str)) = false := by decide) (hcd : (x == ("__classdict__" : Str)) = false := by decide) (he : starEach (e :: es) X.env = (false, eval e X.env) :: starEach es X.env := by rfl)
    (hpl : ((backTo pos (starEach (e :: es) X.env)).any (·.1) || (backToKw pos (keywordEach kws X.env)).any (·.1.isNone)) = false := by rfl) :
    PE X (.Call (.Name x p) (e :: es) kws pos) (tCallLN i f n ks.length sp gV E t tk) := by
  refine ⟨fun pins s σ H Q I h => ?_⟩
  obtain ⟨hs, h⟩ := h
  refine wpAny_Call_Name_kw (thn ((pe_var (pos := p) hN hv hdb hcd).run pins s σ H (fun v H1 => v = .ref f ∧ H1 = H) I ⟨.ref f, hs, rfl, rfl⟩) fun u s1 ⟨v, H1, I1, r1, q1⟩ => ?_)
  obtain ⟨rfl, rfl⟩ := q1
  cases r1
  refine PySem.W.callWith_KW (h₀ := X.base) I.ok.mod.kin hk hall (thn (ha.run pos pins s1 σ _ _ I1 h) fun us s2 ⟨vs, H2, I2, r, q⟩ => ?_) hpl he
  refine thn (hkw.run pos pins s2 σ H2 _ I2 q) fun ws s3 ⟨zs, H3, I3, rz, l1, l2, q2⟩ => ⟨I3.kIn, ?_⟩
  rw [hks]
  exact run_fnN F hr hb hx I3 r rz l1 l2 q2
/-- of two readings, one -/
theorem pe_or {X : Cx} {e : Expr} {t1 t2 : TE} (h1 : PE X e t1) (h2 : PE X e t2) : PE X e (fun σ H Q => t1 σ H Q ∨ t2 σ H Q) :=
  ⟨fun pins s σ H Q I h => h.elim (h1.run pins s σ H Q I) (h2.run pins s σ H Q I)⟩
end
/-! ### a lambda called within a try: what leaves it is wished for at the caller's slots -/
section
variable {X : Cx} {pins : List (Addr × Obj)} {σ : L2.St} {H : Hp} {s : Shared}
theorem pe_actS {CXg : CXT} {Eg : XK} {Ng : List Str} {qg : Str} {sg : Scope} {g f c' : Addr} {cdg pm ctv : Value} {params : Arguments} {body : Expr} {scope : Scope} {k i : Nat} {a : Str} {pn : List (Addr × Obj)} {xe : Value → Shared → Prop} {W : WX} {t : XK → TE} {p1 p2 : Pos}
    (I : Inv X pins σ H s) (L : LamS X.env.scope scope) (hf : s.heap.get? f = some (PySem.W.kla_obj "<lambda>" (X.env.qual ++ "<lambda>") params body scope (cloFrom X.env.cells scope.names []) pm c' ctv)) (hfn : H f = none) (hfr : f ∉ frs X.stack)
    (hbind : bindArgs (PySem.W.kla_fn "<lambda>" (X.env.qual ++ "<lambda>") params body scope (cloFrom X.env.cells scope.names []) pm (.ref c') ctv) ⟨[], []⟩ = pure [])
    (tk : Takes ((cxOf CXg X.prog X.w X.K X.mg X.base Ng qg sg g cdg X.A X.stack s H Eg).tr pn xe) W) (hr : Room (k + 1) (X.A.deeper (envOfC qg sg s.heap.objs.size g cdg)))
    (hbody : ∀ (A : Around) (outer : List Env) (s : Shared) (H : Hp) (E : XK), Room k (A.deeper (lamEnv X scope s.heap.objs.size f c')) → PE (lamCx X A outer s H E scope f c') body (t E))
    (hN : Ng[i]? = some a) (hv : Vis sg a) (hd : (a == ("__debug__" : Str)) = false := by decide) (hcd : (a == ("__classdict__" : Str)) = false := by decide) :
    PE ((cxOf CXg X.prog X.w X.K X.mg X.base Ng qg sg g cdg X.A X.stack s H Eg).tr pn xe) (.Call (.Name a p1) [] [] p2)
      (fun σZ HZ Q => σZ[i]? = some (some (.ref f)) ∧ HZ c' = some (CodeO c' (X.env.qual ++ "<lambda>")) ∧ ∃ E : XK, (∀ cls d H', E cls d H' → W cls d σZ H') ∧ t E σ HZ Q) := by
  refine ⟨fun pinsZ sZ σZ HZ Q IZ h => ?_⟩
  obtain ⟨hs, hc, E, hW, ht⟩ := h
  refine wpAny_Call_Name_kw (thn ((pe_var (pos := p1) (i := i) hN hv hd hcd).run pinsZ sZ σZ HZ (fun v H1 => v = .ref f ∧ H1 = HZ) IZ ⟨.ref f, hs, rfl, rfl⟩) fun u s1 ⟨v, H1, I1, r1, q1⟩ => ?_)
  obtain ⟨ev, eH⟩ := q1
  subst ev
  rw [eH] at I1
  obtain rfl : u = Value.ref f := r1
  have at1 := I1.base.keep f _ hf hfn hfr (fun z => nomatch (show f ∈ ([] : List Addr) from z))
  refine PySem.W.callWith_F0 ⟨_, _, _, _, at1⟩ ?_
  have un : Un (frs X.stack) [] H HZ s.heap s1.heap := I1.base
  obtain ⟨⟨oc, vs, tt, hoc, hdc, hvc⟩, _, _⟩ := I1.hok c' _ hc
  have rc : codeAny (model X.prog X.w) (X.A.deeper (envOfC qg sg s.heap.objs.size g cdg)) (.call (.ref f) ⟨[], []⟩) (CR (L2.CX X.prog X.w) (envOfC qg sg s.heap.objs.size g cdg :: X.stack) X.prog X.w HZ s1 Q E) s1 := by
    refine PySem.W.kla_callFunE hr.depth at1 rfl L.co L.gen rfl ⟨c', oc, vs, tt, rfl, hoc, hdc, hvc⟩ ?_
    rw [hbind]
    refine wpAny_pure (wpAny_newFunctionEnv (fun y hy => (L.own y hy).2) (fun y hy => absurd hy (by simp)) (fun h₁ hns hsb => ⟨I1.nolimit.fresh _ hsb, ?_⟩) L.kind)
    have kp : ∀ b o, s1.heap.get? b = some o → h₁.get? b = some o := fun b o e => hsb.extBut b o (Nat.ne_of_lt (Heap.lt_size e)) (Heap.get?_push_of_some _ e)
    show codeAny _ _ (.expr body (lamEnv X scope s1.heap.objs.size f c')) _ _
    have J : Inv (lamCx X (X.A.deeper (envOfC qg sg s.heap.objs.size g cdg)) (envOfC qg sg s.heap.objs.size g cdg :: X.stack) s1 HZ E scope f c') [] σ HZ { s1 with heap := h₁, toks := s1.toks + ([] : List (Str × Value)).length } :=
      lam_start2 I L I1.env0 hr.hd un hns kp
    refine PySem.W.kla_codeExpr (wpAny_mono ((hbody _ _ s1 HZ E (hr.deeper _)).run [] _ _ HZ Q J ht) (fun v s' hq => ?_) fun e s' hq => hq)
    obtain ⟨w', H', J', rv, q⟩ := hq
    exact ⟨w', H', J'.os, J'.bare, J'.base, J'.hok, rv, q⟩
  refine wpAny_call (codeAny_mono rc fun r s' hq => ?_)
  cases r with
  | error e => exact passAt (tk.imp fun c d σ' H' (z : σ' = σZ ∧ E c d H') => by
        rw [z.1]
        exact hW _ _ _ z.2) σZ pinsZ HZ s1 e s' I1 (by
        obtain ⟨a, B, H', cls, d, e1, e2, e3, e4, e5, e6, e7, e8⟩ := hq
        exact ⟨a, B, H', cls, d, e1, e2, e3, e4, e5, e6, e7, rfl, e8⟩)
  | ok fl =>
    cases fl with
    | ret u => exact I1.after hq
    | next => exact False.elim hq
    | brk => exact False.elim hq
    | cont => exact False.elim hq
end
/-! ### f(lambda: .., g), f a def that calls the first and hands what it caught to the second -/
def Gives2 (X : Cx) (k : Nat) (Ng : List Str) (x : Str) (sg : Scope) (g g2 : Addr) (cdg : Value) (bg : List Stmt) (a : Str) (q : Str) (TT : (XK → Hp → VK → Prop) → Hp → VK → Prop) : Prop :=
  ∀ (f c : Addr) (s : Shared) (H : Hp) (Q : VK) (tl : XK → Hp → VK → Prop), Room k (X.A.deeper (envOfC x sg s.heap.objs.size g cdg)) →
    (∀ (W : WX) (pn : List (Addr × Obj)) (xe : Value → Shared → Prop) (q1 q2 : Pos),
      Takes ((cxOf L2.CX0 X.prog X.w X.K X.mg X.base Ng x sg g cdg X.A X.stack s H L2.E0).tr pn xe) W →
      PE ((cxOf L2.CX0 X.prog X.w X.K X.mg X.base Ng x sg g cdg X.A X.stack s H L2.E0).tr pn xe) (.Call (.Name a q1) [] [] q2)
        (fun σZ HZ Q => σZ[0]? = some (some (.ref f)) ∧ HZ c = some (CodeO c q) ∧ ∃ E : XK, (∀ cls d H', E cls d H' → W cls d σZ H') ∧ tl E HZ Q)) →
    H c = some (CodeO c q) → TT tl H Q →
    ∃ t, PSs (cxOf L2.CX0 X.prog X.w X.K X.mg X.base Ng x sg g cdg X.A X.stack s H L2.E0).nox bg t ∧ t { nx := fun _ H' => Q .non H', rt := Q } (L2.start Ng [.ref f, .ref g2]) H
def tLam2 (T : List (Addr × Str)) (TT : (XK → Hp → VK → Prop) → Hp → VK → Prop) (t : XK → TE) : TE := fun σ H Q => Tabs T H ∧ ∀ H1, ExtN H H1 → Tabs T H1 → TT (fun E H' Q' => t E σ H' Q') H1 Q
section
variable {X : Cx}
theorem pe_lamcall2 {T : List (Addr × Str)} {TT : (XK → Hp → VK → Prop) → Hp → VK → Prop} {x y a b : Str} {g g2 c P : Addr} {k : Nat} {pg : Arguments} {bg : List Stmt} {sg : Scope} {dV kV doc pm cdv ct oc : Value} {an od : Option Addr} {osl : Array (Option Value)} {Ng : List Str}
    {params : Arguments} {body : Expr} {scope : Scope} {t : XK → TE} {p lpos ypos pos : Pos} (hg : Gl X x) (hm : X.mg x = some (.ref g)) (hk : PySem.W.keepIn X.K (.ref g) = true) (hy : PE X (.Name y ypos) (tC (.ref g2)))
    (lk : X.K.lookup g = some ⟨oc, od, .func (PySem.W.fnOf x x pg bg sg dV kV doc pm an cdv ct), osl⟩) (hcg : PySem.W.codeIn X.K cdv x = true) (hb : L2.Binds X.K (PySem.W.fnOf x x pg bg sg dV kV doc pm an cdv ct) [a, b] []) (Sg : FnScope Ng [a, b] sg) (hNg : Ng[0]? = some a) (hva : Vis sg a)
    (hG : Gives2 X (k + 1) Ng x sg g g2 cdv bg a (lamQ X) TT)
    (TB : TabB X.base X.mg c P) (hcode : X.env.code = .ref c) (hmT : (P, lamQ X) ∈ T) (hu : ∀ p ∈ T, p.1 = P → p.2 = lamQ X) (hr : Room (k + 2) X.A) (L : LamS X.env.scope scope) (hdef : defaultsOf params X.env = ([], []))
    (hbind : ∀ (q : Str) (cl : List (Str × Addr)) (pm cv ctv : Value), bindArgs (PySem.W.kla_fn "<lambda>" q params body scope cl pm cv ctv) ⟨[], []⟩ = pure [])
    (hbody : ∀ (A : Around) (outer : List Env) (s : Shared) (H : Hp) (E : XK) (f c' : Addr), Room k (A.deeper (lamEnv X scope s.heap.objs.size f c')) → PE (lamCx X A outer s H E scope f c') body (t E))
    (hdb : (x == ("__debug__" : Str)) = false := by decide) (hd : (a == ("__debug__" : Str)) = false := by decide) (hcd : (a == ("__classdict__" : Str)) = false := by decide) :
    PE X (.Call (.Name x p) [.Lambda params body scope lpos, .Name y ypos] [] pos) (tLam2 T TT t) := by
  constructor
  rintro pins s σ H Q I ⟨hT, h⟩
  refine wpAny_Call_Name_kw (ld_glob I hg hm ?_ hdb)
  have args : PA X [.Lambda params body scope lpos, .Name y ypos] (tCons (tLamV T X params body scope) (tCons (tC (.ref g2)) tNil)) := pa_cons (pe_lamV TB hcode hmT hu L hdef) (pa_cons hy pa_nil)
  refine PySem.W.callWith_K (h₀ := X.base) I.ok.mod.kin hk (thn (args.run pos pins s σ H (fun vs G => ∃ (f c' : Addr) (H1 : Hp), vs = [.ref f, .ref g2] ∧ ExtN H H1 ∧ Tabs T H1 ∧ H1 c' = some (CodeO c' (lamQ X)) ∧ H1 f = none ∧ G = upd H1 f (CloO (lamQ X) params body scope (cloFrom X.env.cells scope.names []) c' f)) I
    ⟨hT, fun f c' H1 ext T1 hc hf _ _ => ⟨f, c', H1, rfl, ext, T1, hc, hf, rfl⟩⟩) ?_) (by rfl) (by rfl)
  rintro us s2 ⟨vs, G, B2, rel, f, c', H1, rfl, ext, T1, hc, hf, rfl⟩
  refine ⟨B2.kIn, ?_⟩
  cases rel with
  | cons r0 rn =>
    cases rn with
    | cons r1 rn =>
      cases rn
      cases r0
      cases r1
      have clo : (upd H1 f (CloO (lamQ X) params body scope (cloFrom X.env.cells scope.names []) c' f)) f = some (CloO (lamQ X) params body scope (cloFrom X.env.cells scope.names []) c' f) := upd_same
      have B3 := letgo B2 clo
      have eH : delH (upd H1 f (CloO (lamQ X) params body scope (cloFrom X.env.cells scope.names []) c' f)) f = H1 := by
        funext z
        by_cases e : z = f
        · rw [e, delH_same, hf]
        · rw [delH_ne e, upd_ne e]
      rw [eH] at B3
      obtain ⟨⟨pm', ctv', got⟩, _⟩ := B2.hok f _ clo
      have offF : f ∉ frs X.stack := by
        intro hm'
        have z := B2.stkFree f hm'
        rw [clo] at z
        cases z
      have rc : codeAny (model X.prog X.w) X.A (.call (.ref g) ⟨[.ref f, .ref g2], []⟩) (CR L2.CX0 X.stack X.prog X.w H1 s2 Q L2.E0) s2 := by
        refine run_ofS (N := Ng) (ps := [a, b]) (us := [.ref f, .ref g2]) (vs := [.ref f, .ref g2]) lk hcg Sg hr B3.env0 (hb s2 [.ref f, .ref g2] B3.kIn rfl) (.cons rfl (.cons rfl .nil)) rfl ?_
        intro hr'
        obtain ⟨t', ht', hq'⟩ := hG f c' s2 H1 Q (fun E H' Q' => t E σ H' Q') hr'
          (fun W pn xe q1 q2 tk => pe_actS (i := 0) B3 L got hf offF (hbind _ _ _ _ _) tk hr' (fun A outer s H E hr2 => hbody A outer s H E f c' hr2) hNg hva hd hcd)
          hc (h H1 ext T1)
        exact ⟨t', ht'.nox, hq'⟩
      refine wpAny_call (codeAny_mono rc ?_)
      rintro r s3 hq
      cases r with
      | error e => exact (show False from hq).elim
      | ok fl =>
        cases fl with
        | ret u => exact B3.after hq
        | next => exact False.elim hq
        | brk => exact False.elim hq
        | cont => exact False.elim hq
end
end L2X
namespace Dt
open PySem PySem.Spec PyProof.Rows L2 L2X LamX
open SX (S)
/-! ### what a caught exception is, by its twelve tests -/
structure T12 (mg : Str → Option Value) (CD : Addr) (cs : List Addr) : Prop where
  isi : mg "isinstance" = none
  ver : mg "ValueError" = none
  en : mg "enumerate" = none
  gd : mg "DotError" = some (.ref CD)
  gs : ∃ c0 c1 c2 c3 c4 c5 c6 c7 c8 c9 c10 c11 : Addr, cs = [c0, c1, c2, c3, c4, c5, c6, c7, c8, c9, c10, c11] ∧ mg "NoPicture" = some (.ref c0) ∧ mg "NoPlace" = some (.ref c1) ∧ mg "NoShape" = some (.ref c2) ∧ mg "NoSign" = some (.ref c3) ∧ mg "NoWord" = some (.ref c4) ∧ mg "NoReading" = some (.ref c5) ∧ mg "NoTable" = some (.ref c6) ∧ mg "NoLine" = some (.ref c7) ∧ mg "NoDeed" = some (.ref c8) ∧ mg "NoBack" = some (.ref c9) ∧ mg "TooMany" = some (.ref c10) ∧ mg "NoText" = some (.ref c11)
/-- an exception of the class at D, the j-th of the twelve -/
structure K12 (K : PySem.W.Frag) (CD : Addr) (cs : List Addr) (D : Addr) (j : Nat) : Prop where
  lt : j < 12
  ex : ExcC K D
  vk : PySem.W.kitOne K (.ref D) (.type "ValueError") = some true
  te : PySem.W.exmOne K (.ref D) (.ref CD) = some true
  ks : ∀ (i : Nat) (c : Addr), cs[i]? = some c → PySem.W.kitOne K (.ref D) (.ref c) = some (decide (i = j))
def fl12 (j : Nat) : List Bool := (List.range 12).map fun i => decide (i = j)
abbrev sLC : Stmt := topS 60
theorem scLC : FnScope ["e", "found"] ["e"] (defScope sLC) := ⟨rfl, rfl, rfl, by decide +kernel, rfl, by decide +kernel, by decide +kernel⟩
def spLC (K : PySem.W.Frag) (CD : Addr) (cs : List Addr) : Sp := fun vs H Q _ => ∃ (a D : Addr) (d : Option Addr) (j : Nat), vs = [.ref a] ∧ KX H a D d ∧ K12 K CD cs D j ∧ ∀ (l : Addr) H', Same H H' → H l = none → H' l = some (.lst ((fl12 j).map V.bl)) → Q (.ref l) H'
abbrev sLW : Stmt := topS 59
abbrev nLW : List Str := ["work", "some", "caught", "found", "e", "kinds", "at", "there"]
theorem scLW : FnScope nLW ["work", "some"] (defScope sLW) := ⟨rfl, rfl, rfl, by decide +kernel, rfl, by decide +kernel, by decide +kernel⟩
/-- what _law_word makes of a work -/
def TWrd (K : PySem.W.Frag) (CD : Addr) (cs : List Addr) : (XK → Hp → VK → Prop) → Hp → VK → Prop := fun tl H Q => ∀ (R : VK) H1, Same H H1 → (∀ v H', (∀ t H'', Same H' H'' → H'' t = some (.tup [.str "told", v]) → Q (.ref t) H'') → R v H') →
  tl (fun cls d H' => ∃ D j, cls = .ref D ∧ K12 K CD cs D j ∧ (d = none ∨ ∃ dd fs, d = some dd ∧ H' dd = some (.xd fs)) ∧ ∀ t l H'', Same H' H'' → H'' t = some (.tup [.str "refused", .ref l]) → H'' l = some (.lst [.int (j : Nat)]) → Q (.ref t) H'') H1 R
/-- what stands behind the try -/
def WdM (K : PySem.W.Frag) (CD : Addr) (cs : List Addr) (Q : VK) (y2 y3 : Option V) (H : Hp) : Prop :=
  (∃ v, y2 = some .non ∧ y3 = some v ∧ ∀ t H', Same H H' → H' t = some (.tup [.str "told", v]) → Q (.ref t) H') ∨ ∃ a D d j, y2 = some (.ref a) ∧ KX H a D d ∧ K12 K CD cs D j ∧
    ∀ t l H', Same H H' → H' t = some (.tup [.str "refused", .ref l]) → H' l = some (.lst [.int (j : Nat)]) → Q (.ref t) H'
section
variable {P : Program} {w : World} {K : PySem.W.Frag} {mg : Str → Option Value} {base : Heap} {CD : Addr} {cs : List Addr}
theorem ok_lc {f : Addr} {fd : FuncData} {k : Nat} (F : Fun K "_law_classes" "_law_classes" sLC f fd) (T : T12 mg CD cs) : FnOk P w K mg base CX0 (k + 1) f fd ["e"] (spLC K CD cs) := by
  obtain ⟨c0, c1, c2, c3, c4, c5, c6, c7, c8, c9, c10, c11, ecs, g0, g1, g2, g3, g4, g5, g6, g7, g8, g9, g10, g11⟩ := T.gs
  refine F.ok scLC (fun vs H Q E h => ?_) (fun cdv A outer s H vs Q E hr h => ?_)
  · obtain ⟨a, D, d, j, rfl, _⟩ := h
    rfl
  · obtain ⟨a, D, d, j, rfl, kx, tk, q⟩ := h
    have nd := scLC.nd
    refine ⟨_, C8.pss_cut (ps_set (i := 1) nd rfl (.inl rfl) (pe_lst (pa_cons (pe_callB call_isY (by rfl) T.isi PyProof.Rows.boot_isinstance (pa_cons (pv 0) (pa_cons (pe_glob (v := .ref c0) (by rfl) g0 rfl) pa_nil))) (pa_cons (pe_callB call_isY (by rfl) T.isi PyProof.Rows.boot_isinstance (pa_cons (pv 0) (pa_cons (pe_glob (v := .ref c1) (by rfl) g1 rfl) pa_nil))) (pa_cons (pe_callB call_isY (by rfl) T.isi PyProof.Rows.boot_isinstance (pa_cons (pv 0) (pa_cons (pe_glob (v := .ref c2) (by rfl) g2 rfl) pa_nil))) (pa_cons (pe_callB call_isY (by rfl) T.isi PyProof.Rows.boot_isinstance (pa_cons (pv 0) (pa_cons (pe_glob (v := .ref c3) (by rfl) g3 rfl) pa_nil))) pa_nil))))))
      (C8.pss_cut (ps_set (i := 1) nd rfl (.inl rfl) (pe_op op_cat (pv 1) (pe_lst (pa_cons (pe_callB call_isY (by rfl) T.isi PyProof.Rows.boot_isinstance (pa_cons (pv 0) (pa_cons (pe_glob (v := .ref c4) (by rfl) g4 rfl) pa_nil))) (pa_cons (pe_callB call_isY (by rfl) T.isi PyProof.Rows.boot_isinstance (pa_cons (pv 0) (pa_cons (pe_glob (v := .ref c5) (by rfl) g5 rfl) pa_nil))) (pa_cons (pe_callB call_isY (by rfl) T.isi PyProof.Rows.boot_isinstance (pa_cons (pv 0) (pa_cons (pe_glob (v := .ref c6) (by rfl) g6 rfl) pa_nil))) (pa_cons (pe_callB call_isY (by rfl) T.isi PyProof.Rows.boot_isinstance (pa_cons (pv 0) (pa_cons (pe_glob (v := .ref c7) (by rfl) g7 rfl) pa_nil))) pa_nil)))))))
      (pss_one (ps_ret (pe_op op_cat (pv 1) (pe_lst (pa_cons (pe_callB call_isY (by rfl) T.isi PyProof.Rows.boot_isinstance (pa_cons (pv 0) (pa_cons (pe_glob (v := .ref c8) (by rfl) g8 rfl) pa_nil))) (pa_cons (pe_callB call_isY (by rfl) T.isi PyProof.Rows.boot_isinstance (pa_cons (pv 0) (pa_cons (pe_glob (v := .ref c9) (by rfl) g9 rfl) pa_nil))) (pa_cons (pe_callB call_isY (by rfl) T.isi PyProof.Rows.boot_isinstance (pa_cons (pv 0) (pa_cons (pe_glob (v := .ref c10) (by rfl) g10 rfl) pa_nil))) (pa_cons (pe_callB call_isY (by rfl) T.isi PyProof.Rows.boot_isinstance (pa_cons (pv 0) (pa_cons (pe_glob (v := .ref c11) (by rfl) g11 rfl) pa_nil))) pa_nil))))))))), ?_⟩
    subst ecs
    have k0 := tk.ks 0 c0 rfl
    have k1 := tk.ks 1 c1 rfl
    have k2 := tk.ks 2 c2 rfl
    have k3 := tk.ks 3 c3 rfl
    have k4 := tk.ks 4 c4 rfl
    have k5 := tk.ks 5 c5 rfl
    have k6 := tk.ks 6 c6 rfl
    have k7 := tk.ks 7 c7 rfl
    have k8 := tk.ks 8 c8 rfl
    have k9 := tk.ks 9 c9 rfl
    have k10 := tk.ks 10 c10 rfl
    have k11 := tk.ks 11 c11 rfl
    have e4 : ∀ n, (fl12 j).take n ++ [decide (n = j), decide (n + 1 = j), decide (n + 2 = j), decide (n + 3 = j)] = (fl12 j).take (n + 4) ∨ 12 < n + 4 := fun n => by
      by_cases h : 12 < n + 4
      · exact .inr h
      · left
        have : n = 0 ∨ n = 1 ∨ n = 2 ∨ n = 3 ∨ n = 4 ∨ n = 5 ∨ n = 6 ∨ n = 7 ∨ n = 8 := by omega
        rcases this with rfl | rfl | rfl | rfl | rfl | rfl | rfl | rfl | rfl <;> rfl
    refine ⟨fun σ' H' => ∃ l, σ' = [some (.ref a), some (.ref l)] ∧ Same H H' ∧ H l = none ∧ H' l = some (.lst (((fl12 j).take 4).map V.bl)), ?_, ?_⟩
    · refine ⟨.ref a, rfl, a, D, d, .ref c0, .ref c0, _, rfl, kx, tk.ex, (fun u r => r), k0, .ref a, rfl, a, D, d, .ref c1, .ref c1, _, rfl, kx, tk.ex, (fun u r => r), k1, .ref a, rfl, a, D, d, .ref c2, .ref c2, _, rfl, kx, tk.ex, (fun u r => r), k2, .ref a, rfl, a, D, d, .ref c3, .ref c3, _, rfl, kx, tk.ex, (fun u r => r), k3, by show 4 ≤ sizeLine; decide, fun l hl => ⟨l, rfl, same_upd hl, hl, upd_same⟩⟩
    rintro _ H1 ⟨l1, rfl, s1, n1, h1⟩
    refine ⟨fun σ' H' => ∃ l, σ' = [some (.ref a), some (.ref l)] ∧ Same H H' ∧ H l = none ∧ H' l = some (.lst (((fl12 j).take 8).map V.bl)), ?_, ?_⟩
    · refine ⟨.ref l1, rfl, .ref a, rfl, a, D, d, .ref c4, .ref c4, _, rfl, (kx.same s1), tk.ex, (fun u r => r), k4, .ref a, rfl, a, D, d, .ref c5, .ref c5, _, rfl, (kx.same s1), tk.ex, (fun u r => r), k5, .ref a, rfl, a, D, d, .ref c6, .ref c6, _, rfl, (kx.same s1), tk.ex, (fun u r => r), k6, .ref a, rfl, a, D, d, .ref c7, .ref c7, _, rfl, (kx.same s1), tk.ex, (fun u r => r), k7, by show 4 ≤ sizeLine; decide, fun l hl => ?_⟩
      have sl := same_upd (o := .lst [V.bl (decide (4 = j)), V.bl (decide (5 = j)), V.bl (decide (6 = j)), V.bl (decide (7 = j))]) hl
      refine ⟨l1, l, _, _, rfl, rfl, sl _ _ h1, upd_same, by show 8 ≤ sizeLine; decide, fun l2 hl2 => ⟨l2, rfl, (s1.trans sl).trans (same_upd hl2), (s1.trans sl).free hl2, ?_⟩⟩
      rw [upd_same]
      rfl
    rintro _ H2 ⟨l2, rfl, s2, n2, h2⟩
    refine ⟨.ref l2, rfl, .ref a, rfl, a, D, d, .ref c8, .ref c8, _, rfl, (kx.same s2), tk.ex, (fun u r => r), k8, .ref a, rfl, a, D, d, .ref c9, .ref c9, _, rfl, (kx.same s2), tk.ex, (fun u r => r), k9, .ref a, rfl, a, D, d, .ref c10, .ref c10, _, rfl, (kx.same s2), tk.ex, (fun u r => r), k10, .ref a, rfl, a, D, d, .ref c11, .ref c11, _, rfl, (kx.same s2), tk.ex, (fun u r => r), k11, by show 4 ≤ sizeLine; decide, fun l hl => ?_⟩
    have sl := same_upd (o := .lst [V.bl (decide (8 = j)), V.bl (decide (9 = j)), V.bl (decide (10 = j)), V.bl (decide (11 = j))]) hl
    refine ⟨l2, l, _, _, rfl, rfl, sl _ _ h2, upd_same, by show 12 ≤ sizeLine; decide, fun l3 hl3 => q l3 _ ((s2.trans sl).trans (same_upd hl3)) ((s2.trans sl).free hl3) ?_⟩
    rw [upd_same]
    rfl
end
theorem word_gives {X : Cx} {k : Nat} {q : Str} {g gC CD : Addr} {fdC : FuncData} {cs : List Addr} {cdg : Value} (T : T12 X.mg CD cs) (GC : FnOk X.prog X.w X.K X.mg X.base CX0 k gC fdC ["e"] (spLC X.K CD cs)) (kC : PySem.W.keepIn X.K (.ref gC) = true) (bC : Binds X.K fdC ["e"] []) :
    Gives2 X (k + 1) nLW "_law_word" (defScope sLW) g gC cdg (defBody sLW) "work" q (TWrd X.K CD cs) := by
  intro f c s H Q tl hr act hc h
  have nd := scLW.nd
  refine ⟨_, C8.pss_cut (ps_asg (pe_tup (pa_cons pe_non (pa_cons pe_non pa_nil))) (pg_tup rfl (pgs_cons (pg_name (i := 2) nd rfl (Or.inl rfl)) (pgs_cons (pg_name (i := 3) nd rfl (Or.inl rfl)) pgs_nil))))
    (C8.pss_cut (ps_try_keep (i := 4) (c := .ref CD) (ts := fun a cls d => tAsg (tVar 4) (gName 2))
        (tb := fun W Dn σ H => σ[0]? = some (some (.ref f)) ∧ H c = some (CodeO c q) ∧ ∃ Ech : XK, (∀ cls d H', Ech cls d H' → W cls d σ H') ∧ tl Ech H (fun v H' => Dn.nx (σ.set 3 (some v)) H'))
        rfl rfl rfl nd rfl rfl ⟨rfl, by decide, .inl T.gd⟩ (fun W pn xe tk _ => ?_) (fun a oe cls d pn _ _ => pss_one (ps_set (i := 2) nd rfl (.inl rfl) (pv 4))))
    (pss_cons (ps_if (pt_cmp (pc_isN (pv 2))) (pss_one (ps_ret (pe_tup (pa_cons pe_str (pa_cons (pv 3) pa_nil))))) pss_nil)
    (C8.pss_cut (ps_setLc (i := 5) (own := [("at", 6), ("there", 7)]) (g := gTup X.K 2 (gCons (gName 6) (gCons (gName 7) gNil))) (by rfl) nd rfl rfl (sw_true rfl rfl rfl (by decide +kernel))
        (pi_enumG (by rfl) T.en (pa_cons (pe_callL (i := 1) (E := E0) GC (hr.mono (by omega)) rfl (.inl rfl) kC bC .nil pass0 (pa_cons (pv 2) pa_nil)) pa_nil))
        (blkOk_by (N := nLW) (sc := defScope sLW) (by decide +kernel)) (fun _ _ _ _ _ => pg_tup rfl (pgs_cons (pg_name (i := 6) nd rfl (Or.inl rfl)) (pgs_cons (pg_name (i := 7) nd rfl (Or.inl rfl)) pgs_nil))) (fun _ _ _ _ _ => pts_one (pt_val (pv 7))) (fun _ _ _ _ _ => pv 6))
    (pss_one (ps_ret (pe_tup (pa_cons pe_str (pa_cons (pe_ifExp (pt_val (pe_callB call_isY (by rfl) T.isi PyProof.Rows.boot_isinstance (pa_cons (pv 2) (pa_cons (pe_bltn (v := .ty "ValueError") (u := .type "ValueError") (by rfl) T.ver (by decide +kernel) rfl) pa_nil)))) (pv 5) pe_non) pa_nil)))))))), ?_⟩
  · constructor
    rintro pins s' σ H' Dn I ⟨h1, h2, Ech, hW, h3⟩
    exact (pss_one (ps_set (i := 3) nd rfl (.inl rfl) (act W pn xe _ _ tk))).run pins s' σ H' Dn I ⟨h1, h2, Ech, hW, h3⟩
  · refine ⟨fun σ' H' => σ' = [some (.ref f), some (.ref gC), some .non, some .non, none, none, none, none] ∧ Same H H', ?_, ?_⟩
    · exact ⟨by show 2 ≤ sizeLine; decide, fun t ht => ⟨t, _, rfl, SqT.of upd_same, rfl, _, _, rfl, _, _, rfl, rfl, rfl, same_upd ht⟩⟩
    rintro _ H1 ⟨rfl, s1⟩
    refine ⟨fun σ' H' => ∃ y2 y3, σ' = [some (.ref f), some (.ref gC), y2, y3, none, none, none, none] ∧ WdM X.K CD cs Q y2 y3 H', ?_, ?_⟩
    · refine ⟨rfl, s1 _ _ hc, _, ?_, h _ H1 s1 fun v H' hq => ⟨_, _, rfl, .inl ⟨v, rfl, rfl, hq⟩⟩⟩
      rintro cls d H' ⟨D, j, rfl, tk, hd, hq⟩
      refine ⟨tk.te, fun a ha => ⟨.ref a, rfl, some (.ref a), some .non, rfl, .inr ⟨a, D, d, j, rfl, ⟨upd_same, ?_⟩, tk, fun t l H'' sm => hq t l H'' ((same_upd ha).trans sm)⟩⟩⟩
      exact hd.imp id fun ⟨dd, fs, e, z⟩ => ⟨dd, fs, e, same_upd ha _ _ z⟩
    rintro _ H2 ⟨y2, y3, rfl, hm⟩
    rcases hm with ⟨v, rfl, rfl, q0⟩ | ⟨a, D, d, j, rfl, kx, tk, q0⟩
    · exact ⟨.non, rfl, _, rfl, iteT ⟨v, rfl, by show 2 ≤ sizeLine; decide, fun t ht => q0 t _ (same_upd ht) upd_same⟩⟩
    refine ⟨.ref a, rfl, _, rfl, iteF ?_⟩
    refine ⟨fun σ' H' => ∃ l, σ' = [some (.ref f), some (.ref gC), some (.ref a), y3, none, some (.ref l), none, none] ∧ Same H2 H' ∧ H' l = some (.lst [.int (j : Nat)]), ?_, ?_⟩
    · refine ⟨rfl, .ref a, rfl, a, D, d, j, rfl, kx, tk, fun l H3 s3 n3 h3 => ⟨.lst l, _, rfl, SqL.of h3, fun N hN => ?_⟩⟩
      refine lc_enumG (K := X.K) (A := .lst l) (xs := (fl12 j).map V.bl) (fun i H4 => Same H3 H4 ∧ H4 N = some (.lst (if j < i then [.int (j : Nat)] else []))) ⟨same_upd hN, upd_same⟩ (fun i H4 _ z => SqL.of (z.1 _ _ h3)) ?_ ?_
      · rintro i x H4 TT hi ⟨sm, h4⟩ nT
        obtain ⟨b, hb, rfl⟩ := map_at2 hi
        have hi12 : i < 12 := by
          have := (List.getElem?_eq_some_iff.mp hb).1
          unfold fl12 at this
          rw [List.length_map, List.length_range] at this
          exact this
        have eb : b = decide (i = j) := by
          unfold fl12 at hb
          rw [List.getElem?_map, List.getElem?_range hi12] at hb
          cases hb
          rfl
        subst eb
        have sT := same_upd (o := .tup [V.int (i : Nat), V.bl (decide (i = j))]) nT
        refine ⟨TT, _, rfl, SqT.of upd_same, rfl, _, _, rfl, _, _, rfl, rfl, rfl, .bl (decide (i = j)), rfl, _, rfl, ?_⟩
        by_cases e : i = j
        · rw [decide_eq_true e]
          rw [if_neg (by omega)] at h4
          rw [decide_eq_true e] at sT
          refine iteT ⟨.int (i : Nat), rfl, [], sT _ _ h4, by decide, same_over (sm.trans sT) hN, ?_⟩
          rw [upd_same, if_pos (by omega), e]
          rfl
        · rw [decide_eq_false e]
          rw [decide_eq_false e] at sT
          refine iteF ⟨sm.trans sT, ?_⟩
          rw [sT _ _ h4]
          by_cases h : j < i
          · rw [if_pos h, if_pos (by omega)]
          · rw [if_neg h, if_neg (by omega)]
      · rintro H4 ⟨sm, h4⟩
        have el : ((fl12 j).map V.bl).length = 12 := by
          unfold fl12
          rw [List.length_map, List.length_map, List.length_range]
        rw [el, if_pos tk.lt] at h4
        exact ⟨N, rfl, s3.trans sm, h4⟩
    rintro _ H3 ⟨l, rfl, s3, hl⟩
    exact ⟨.ref a, rfl, a, D, d, .ty "ValueError", .type "ValueError", true, rfl, kx.same s3, tk.ex, (fun u r => r), tk.vk, _, rfl, iteT ⟨.ref l, rfl, by show 2 ≤ sizeLine; decide, fun t ht => q0 t l _ (s3.trans (same_upd ht)) upd_same (same_upd ht _ _ hl)⟩⟩
end Dt
namespace L2X
open PySem PySem.Spec PyProof.Rows L2
theorem pi_tupK {X : Cx} {K : PySem.W.Frag} {tg l : Expr} {tl : TE} (hK : X.K = K) (hl : PE X l tl) : PI X tg l (iTup K tl) := by
  subst hK
  exact pi_tup hl
end L2X
namespace Dt
open PySem PySem.Spec PyProof.Rows L2 L2X
open SX (S)
/-! ### readings -/
/-- an alphabet of right shapes -/
structure AlpG (C : Addr) (H : Hp) (o : Addr) (high : Nat) (ss : List Sh) : Prop where
  al : AlpAt C H o high ss
  pr : ∀ s ∈ ss, PicR high s.w s.rs
  l1 : 0 < ss.length
  l16 : ss.length ≤ 16
theorem AlpG.same {C : Addr} {H H' : Hp} {o : Addr} {high : Nat} {ss : List Sh} (h : AlpG C H o high ss) (s : Same H H') : AlpG C H' o high ss := ⟨h.al.same s, h.pr, h.l1, h.l16⟩
theorem AlpG.shape {C : Addr} {H : Hp} {o : Addr} {high n : Nat} {ss : List Sh} (h : AlpG C H o high ss) (hn : n < ss.length) : ∃ s, ss[n]? = some s ∧ PicR high s.w s.rs ∧ wdt ss n = s.w :=
  ⟨ss[n], List.getElem?_eq_getElem hn, h.pr _ (List.getElem_mem hn), wdt_at (List.getElem?_eq_getElem hn)⟩
theorem way_len {C : Addr} {H : Hp} {o : Addr} {high cols : Nat} {ss : List Sh} {ws : List (Nat × Nat)} (h : AlpG C H o high ss) (w : WayOk ss cols ws) : ws.length ≤ cols := by
  have key : ∀ i, i ≤ ws.length → i ≤ edge ss ws i := by
    intro i
    induction i with
    | zero => intro _; exact Nat.zero_le _
    | succ i ih =>
      intro hi
      have e : ws[i]? = some ws[i] := List.getElem?_eq_getElem (by omega)
      obtain ⟨h1, h2, h3⟩ := w i _ e
      obtain ⟨s, es, pr, ew⟩ := h.shape h1
      have := pr.w0
      have := ih (by omega)
      rw [edge_at e]
      omega
  rcases Nat.eq_zero_or_pos ws.length with e | e
  · omega
  · have := key ws.length (Nat.le_refl _)
    obtain ⟨n, en⟩ : ∃ n, ws.length = n + 1 := ⟨ws.length - 1, by omega⟩
    rw [en] at this ⊢
    have e2 : ws[n]? = some ws[n] := List.getElem?_eq_getElem (by omega)
    obtain ⟨h1, h2, h3⟩ := w n _ e2
    rw [edge_at e2] at this
    omega
def winB (ss : List Sh) (e : Nat) (cols : Int) (x1 x2 : V) : Bool := betw x2 0 ((ss.length : Int) - 1) && match x2 with
  | .int n => betw x1 e (cols - (wdt ss n.toNat : Int))
  | _ => false
/-- what a window is, behind this edge -/
def WinQ (K : PySem.W.Frag) (H : Hp) (ss : List Sh) (e : Nat) (cols : Int) (x : V) (b : Bool) : Prop :=
  (∃ T, TyB K H x T ∧ tyOk T = true ∧ T ≠ "tuple" ∧ b = false) ∨ (∃ t xs, x = .ref t ∧ SqT K H t xs ∧ xs.length ≠ 2 ∧ b = false) ∨
  (∃ t x1 x2, x = .ref t ∧ SqT K H t [x1, x2] ∧ Kt K H x1 ∧ Kt K H x2 ∧ b = winB ss e cols x1 x2)
theorem WinQ.same {K : PySem.W.Frag} {H H' : Hp} {ss : List Sh} {e : Nat} {cols : Int} {x : V} {b : Bool} (h : WinQ K H ss e cols x b) (s : Same H H') : WinQ K H' ss e cols x b := by
  rcases h with ⟨T, t, o, n, q⟩ | ⟨t, xs, q, ht, n, q2⟩ | ⟨t, x1, x2, q, ht, k1, k2, q2⟩
  · exact .inl ⟨T, tyB_same2 t s, o, n, q⟩
  · exact .inr (.inl ⟨t, xs, q, sameT s ht, n, q2⟩)
  · exact .inr (.inr ⟨t, x1, x2, q, sameT s ht, k1.same s, k2.same s, q2⟩)
theorem betw_true {x : V} {lo hi : Int} (h : betw x lo hi = true) : ∃ i : Int, x = .int i ∧ lo ≤ i ∧ i ≤ hi := by
  cases x with
  | int i =>
    rw [betw_int, Bool.and_eq_true] at h
    exact ⟨i, rfl, of_decide_eq_true h.1, of_decide_eq_true h.2⟩
  | _ => exact nomatch h
theorem winB_ok {ss : List Sh} {e cols c n : Nat} (h1 : n < ss.length) (h2 : e ≤ c) (h3 : c + wdt ss n ≤ cols) : winB ss e cols (.int c) (.int n) = true := by
  show (betw (.int n) 0 ((ss.length : Int) - 1) && betw (.int c) e ((cols : Int) - (wdt ss (n : Int).toNat : Int))) = true
  rw [Int.toNat_natCast, betw_int, betw_int, decide_eq_true (by omega), decide_eq_true (by omega), decide_eq_true (by omega), decide_eq_true (by omega)]
  rfl
abbrev sALn : Stmt := inClass cAl 9
theorem scALn : FnScope ["self"] ["self"] (defScope sALn) := ⟨rfl, rfl, rfl, by decide +kernel, rfl, by decide +kernel, by decide +kernel⟩
def spALn (C : Addr) : Sp := fun vs H Q _ => ∃ (o : Addr) (high : Nat) (ss : List Sh), vs = [.ref o] ∧ AlpAt C H o high ss ∧ Q (.int ss.length) H
abbrev sIW : Stmt := topS 38
theorem scIW : FnScope ["alphabet", "thing", "edge", "columns"] ["alphabet", "thing", "edge", "columns"] (defScope sIW) := ⟨rfl, rfl, rfl, by decide +kernel, rfl, by decide +kernel, by decide +kernel⟩
def spIW (K : PySem.W.Frag) (C : Addr) : Sp := fun vs H Q _ => ∃ (o : Addr) (high e : Nat) (cols : Int) (ss : List Sh) (x : V) (b : Bool), vs = [.ref o, x, .int e, .int cols] ∧ AlpG C H o high ss ∧ WinQ K H ss e cols x b ∧ ∀ H', Same H H' → Q (.bl b) H'
abbrev sWR : Stmt := topS 37
abbrev nWR : List Str := ["alphabet", "columns", "thing", "edge", "window"]
theorem scWR : FnScope nWR ["alphabet", "columns", "thing"] (defScope sWR) := ⟨rfl, rfl, rfl, by decide +kernel, rfl, by decide +kernel, by decide +kernel⟩
def BadR (K : PySem.W.Frag) (H : Hp) (ss : List Sh) (cols : Nat) (x : V) : Prop := (∃ T, TyB K H x T ∧ tyOk T = true ∧ T ≠ "tuple") ∨
  ∃ (a : Addr) (xs : List V) (ws : List (Nat × Nat)) (y : V), x = .ref a ∧ SqT K H a xs ∧ Plc K H (xs.take ws.length) ws ∧ WayOk ss cols ws ∧ xs[ws.length]? = some y ∧ WinQ K H ss (edge ss ws ws.length) cols y false
def GoodR (K : PySem.W.Frag) (H : Hp) (ss : List Sh) (cols : Nat) (x : V) (ws : List (Nat × Nat)) : Prop := ∃ (a : Addr) (xs : List V), x = .ref a ∧ SqT K H a xs ∧ Plc K H xs ws ∧ WayOk ss cols ws
theorem BadR.same {K : PySem.W.Frag} {H H' : Hp} {ss : List Sh} {cols : Nat} {x : V} (h : BadR K H ss cols x) (s : Same H H') : BadR K H' ss cols x := by
  rcases h with ⟨T, t, o, n⟩ | ⟨a, xs, ws, y, q, ht, pl, wk, hy, wq⟩
  · exact .inl ⟨T, tyB_same2 t s, o, n⟩
  · exact .inr ⟨a, xs, ws, y, q, sameT s ht, pl.same s, wk, hy, wq.same s⟩
theorem GoodR.same {K : PySem.W.Frag} {H H' : Hp} {ss : List Sh} {cols : Nat} {x : V} {ws : List (Nat × Nat)} (h : GoodR K H ss cols x ws) (s : Same H H') : GoodR K H' ss cols x ws := by
  obtain ⟨a, xs, q, ht, pl, wk⟩ := h
  exact ⟨a, xs, q, sameT s ht, pl.same s, wk⟩
def spWR (K : PySem.W.Frag) (C CR : Addr) : Sp := fun vs H Q E => ∃ (o : Addr) (high cols : Nat) (ss : List Sh) (x : V), vs = [.ref o, .int cols, x] ∧ AlpG C H o high ss ∧
  ((BadR K H ss cols x ∧ ∀ H', Same H H' → E (.ref CR) none H') ∨ ∃ ws, GoodR K H ss cols x ws ∧ ∀ H', Same H H' → Q .non H')
section
variable {P : Program} {w : World} {K : PySem.W.Frag} {mg : Str → Option Value} {base : Heap} {C CA CR CT : Addr}
theorem ok_aln {f : Addr} {fd : FuncData} {k : Nat} (F : Fun K "__len__" "Alphabet.__len__" sALn f fd) (T : Tx mg) (TA : Tal K mg CA) : FnOk P w K mg base CX0 (k + 1) f fd ["self"] (spALn CA) := by
  refine F.ok scALn (fun vs H Q E h => ?_) (fun cdv A outer s H vs Q E hr h => ?_)
  · obtain ⟨o, high, ss, rfl, _⟩ := h
    rfl
  · obtain ⟨o, high, ss, rfl, ⟨dx, t, xs, ho, ht, Ss⟩, q⟩ := h
    refine ⟨_, pss_one (ps_ret (pe_callB call_len_seq (by rfl) T.len PySem.boot_len (pa_cons (pe_fld (pv 0) rfl) pa_nil))), ?_⟩
    refine ⟨.ref o, rfl, o, CA, dx, _, .ref t, rfl, ho, TA.cl, TA.nS, aF_shapes _ _, t, xs, rfl, .inr (SqT.of ht), ?_⟩
    rw [Ss.len]
    exact q
theorem ok_iw {f : Addr} {fd : FuncData} {k : Nat} (F : Fun K "_is_window" "_is_window" sIW f fd) (T : Tx mg) (TA : Tal K mg CA) (GU : Pm P w K mg base CX0 (k + 2) "is_tuple" ["thing", "many"] (spIsTup K)) (GB : Pm P w K mg base CX0 (k + 2) "is_between" ["thing", "least", "most"] (spBetw K))
    (GL : Mm P w K mg base (k + 1) CA "__len__" ["self"] (spALn CA)) (GW : Mm P w K mg base (k + 2) CA "wide" ["self", "number"] (spAW CA)) : FnOk P w K mg base CX0 (k + 3) f fd ["alphabet", "thing", "edge", "columns"] (spIW K CA) := by
  obtain ⟨fU, fdU, GU, mU, kU, bU⟩ := GU.ex
  obtain ⟨fB, fdB, GB, mB, kB, bB⟩ := GB.ex
  obtain ⟨fL, fdL, GL, mL, bL⟩ := GL.ex
  obtain ⟨fW, fdW, GW, mW, bW⟩ := GW.ex
  refine F.ok scIW (fun vs H Q E h => ?_) (fun cdv A outer s H vs Q E hr h => ?_)
  · obtain ⟨o, _, _, _, _, x, _, rfl, _⟩ := h
    rfl
  · obtain ⟨o, high, e, cols, ss, x, b, rfl, al, wq, q⟩ := h
    refine ⟨_, pss_cons (ps_if (PW.pt (pw_or (pt_not (pt_val (pe_call GU hr (by rfl) mU kU bU .nil pass0 (pa_cons (pv 1) (pa_cons pe_int pa_nil)))))
        (pw_or1 (pt_not (pt_val (pe_call GB hr (by rfl) mB kB bB .nil pass0 (pa_cons (pe_ix (r := rIxT K) ix_tup (pv 1) pe_int (fun _ _ => rfl)) (pa_cons pe_int (pa_cons (pe_op op_sub (pe_callB (call_lenO GL hr mL bL) (by rfl) T.len PySem.boot_len (pa_cons (pv 0) pa_nil)) pe_int) pa_nil))))))))) (pss_one (ps_ret pe_bl)) pss_nil)
      (pss_one (ps_ret (pe_call GB hr (by rfl) mB kB bB .nil pass0 (pa_cons (pe_ix (r := rIxT K) ix_tup (pv 1) pe_int (fun _ _ => rfl)) (pa_cons (pv 2) (pa_cons (pe_op op_sub (pv 3) (pe_meth (pv 0) TA.cl mW GW hr bW .nil pass0 (pa_cons (pe_ix (r := rIxT K) ix_tup (pv 1) pe_int (fun _ _ => rfl)) pa_nil))) pa_nil)))))), ?_⟩
    rcases wq with ⟨T', t, ok, ne, rfl⟩ | ⟨t, xs, rfl, ht, ne, rfl⟩ | ⟨t, x1, x2, rfl, ht, k1, k2, rfl⟩
    · exact ⟨x, rfl, x, 2, rfl, .inl ⟨T', t, ok, ne, _, rfl, iteT (iteT (q H (Same.refl H)))⟩⟩
    · refine ⟨.ref t, rfl, .ref t, 2, rfl, .inr ⟨t, _, rfl, ht, _, rfl, ?_⟩⟩
      rw [decide_eq_false (show ¬ ((xs.length : Int) = 2) by omega)]
      exact iteT (iteT (q H (Same.refl H)))
    · obtain ⟨dx, tt, ys, ho, hts, Ss⟩ := id al.al
      have l16 := al.l16
      refine ⟨.ref t, rfl, .ref t, 2, rfl, .inr ⟨t, _, rfl, ht, _, rfl, iteF ?_⟩⟩
      refine ⟨.ref t, rfl, t, _, 1, x2, rfl, rfl, ht, rfl, .ref o, rfl, o, dx, _, rfl, ho, ⟨o, high, ss, rfl, al.al, ss.length, rfl, by omega, _, 1, rfl, rfl, x2, 0, _, rfl, k2, _, rfl, ?_⟩⟩
      cases e1 : betw x2 0 ((ss.length : Int) - 1) with
      | false =>
        have e2 : winB ss e cols x1 x2 = false := by
          unfold winB
          rw [e1, Bool.false_and]
        rw [e2] at q
        exact iteT (q H (Same.refl H))
      | true =>
        obtain ⟨n, rfl, n0, n1⟩ := betw_true e1
        obtain ⟨n, rfl⟩ := Int.eq_ofNat_of_zero_le n0
        obtain ⟨s', es, pr, ew⟩ := al.shape (n := n) (by omega)
        refine iteF ⟨.ref t, rfl, t, _, 0, x1, rfl, rfl, ht, rfl, .int e, rfl, .int cols, rfl, .ref o, rfl, o, dx, _, rfl, ho, aF_no _ _ (by decide +kernel) (by decide +kernel), .ref t, rfl, t, _, 1, .int n, rfl, rfl, ht, rfl, o, high, n, ss, s', rfl, al.al, es, pr, fun H1 s1 => ⟨cols, s'.w, rfl, rfl, x1, e, _, rfl, k1.same s1, ?_⟩⟩
        have e2 : winB ss e cols x1 (.int (n : Int)) = betw x1 e (cols - (s'.w : Int)) := by
          show (betw (.int n) 0 ((ss.length : Int) - 1) && betw x1 e (cols - (wdt ss (n : Int).toNat : Int))) = _
          rw [e1, Int.toNat_natCast, ew, Bool.true_and]
        rw [← e2]
        exact q H1 s1
theorem ok_wr {f : Addr} {fd : FuncData} {k : Nat} (F : Fun K "want_reading" "want_reading" sWR f fd) (T : Tx mg) (T2 : Tp mg) (TA : Tal K mg CA) (N : ExN K mg "NoReading" CR) (GI : Pm P w K mg base CX0 (k + 1) "_is_window" ["alphabet", "thing", "edge", "columns"] (spIW K CA)) (GW : Mm P w K mg base (k + 1) CA "wide" ["self", "number"] (spAW CA)) :
    FnOk P w K mg base (L2.CX P w) (k + 2) f fd ["alphabet", "columns", "thing"] (spWR K CA CR) := by
  obtain ⟨fI, fdI, GI, mI, kI, bI⟩ := GI.ex
  obtain ⟨fW, fdW, GW, mW, bW⟩ := GW.ex
  refine F.okX scWR (fun vs H Q E h => ?_) (fun cdv A outer s H vs Q E hr h => ?_)
  · obtain ⟨o, _, _, _, x, rfl, _⟩ := h
    rfl
  · obtain ⟨o, high, cols, ss, x, rfl, al, h⟩ := h
    have nd := scWR.nd
    refine ⟨_, pss_cons (ps_if (pt_cmpR op_ne_ty (pe_callTy call_type1 (by rfl) T2.typ (by decide +kernel) (pa_cons (pv 2) pa_nil)) (pe_bltn (v := .ty "tuple") (u := .type "tuple") (by rfl) T.tuple (by decide +kernel) rfl) (nomark _)) (pss_one (ps_raise rfl (takes_of rfl rfl rfl rfl) (pmk_own PySem.F.excBase_ValueError N.x N.g N.k (raises_own N.b N.t) rfl))) pss_nil)
      (pss_cons (ps_set (i := 3) nd rfl (.inl rfl) pe_int)
      (pss_one (ps_for (passes_of rfl) rfl (pi_tup (pv 2)) (pg_name (i := 4) nd rfl (Or.inl rfl))
        (pss_cons (ps_if (pt_not (pt_val (pe_call GI hr (by rfl) mI kI bI .nil pass0 (pa_cons (pv 0) (pa_cons (pv 4) (pa_cons (pv 3) (pa_cons (pv 1) pa_nil))))))) (pss_one (ps_raise rfl (takes_of rfl rfl rfl rfl) (pmk_own PySem.F.excBase_ValueError N.x N.g N.k (raises_own N.b N.t) rfl))) pss_nil)
        (pss_one (ps_set (i := 3) nd rfl (.inl rfl) (pe_op op_add (pe_ix (r := rIxT K) ix_tup (pv 4) pe_int (fun _ _ => rfl)) (pe_meth (pv 0) TA.cl mW GW hr bW .nil pass0 (pa_cons (pe_ix (r := rIxT K) ix_tup (pv 4) pe_int (fun _ _ => rfl)) pa_nil))))))))), ?_⟩
    have h2 : (∃ T, TyB K H x T ∧ tyOk T = true ∧ T ≠ "tuple" ∧ ∀ H', Same H H' → E (.ref CR) none H') ∨ ∃ (a : Addr) (xs : List V) (ws : List (Nat × Nat)), x = .ref a ∧ SqT K H a xs ∧ Plc K H (xs.take ws.length) ws ∧ WayOk ss cols ws ∧ (xs.length = ws.length ∧ (∀ H', Same H H' → Q .non H') ∨ ∃ y, xs[ws.length]? = some y ∧ WinQ K H ss (edge ss ws ws.length) cols y false ∧ ∀ H', Same H H' → E (.ref CR) none H') := by
      rcases h with ⟨⟨T', t, ok, ne⟩ | ⟨a, xs, ws, y, rfl, ht, pl, wk, hy, wq⟩, q⟩ | ⟨ws, ⟨a, xs, rfl, ht, pl, wk⟩, q⟩
      · exact .inl ⟨T', t, ok, ne, q⟩
      · exact .inr ⟨a, xs, ws, rfl, ht, pl, wk, .inr ⟨y, hy, wq, q⟩⟩
      · have e : xs.take ws.length = xs := by rw [← pl.len, List.take_length]
        exact .inr ⟨a, xs, ws, rfl, ht, by rw [e]; exact pl, wk, .inl ⟨pl.len, q⟩⟩
    rcases h2 with ⟨T', t, ok, ne, q⟩ | ⟨a, xs, ws, rfl, ht, pl, wk, h⟩
    · refine ⟨x, rfl, x, T', rfl, t, T', "tuple", rfl, rfl, ok, rfl, _, rfl, ?_⟩
      have e : not (decide (T' = "tuple")) = true := by rw [decide_eq_false ne]; rfl
      exact iteY e (q H (Same.refl H))
    · refine ⟨.ref a, rfl, .ref a, "tuple", rfl, .tup ht, "tuple", "tuple", rfl, rfl, rfl, rfl, _, rfl, iteE (by decide) ?_⟩
      refine ⟨.ref a, rfl, a, rfl, ⟨_, ht⟩, for_tup (K := K) (a := a) (xs := xs) (fun i σ H1 => ∃ y4, σ = [some (.ref o), some (.int cols), some (.ref a), some (.int (edge ss ws i)), y4] ∧ Same H H1 ∧ i ≤ ws.length) ⟨none, rfl, Same.refl H, Nat.zero_le _⟩ (fun i σ H1 _ z => by
        obtain ⟨_, _, sm, _⟩ := z
        exact sameT sm ht) ?_ ?_⟩
      · rintro i x σ H1 hx ⟨y4, rfl, sm, hi⟩
        have al1 := al.same sm
        obtain ⟨dx, tt, ys, ho, hts, Ss⟩ := id al1.al
        rcases Nat.lt_or_ge i ws.length with hlt | hge
        · have ep : ws[i]? = some ws[i] := List.getElem?_eq_getElem hlt
          generalize ws[i] = p at ep
          obtain ⟨t, rfl, hp⟩ := pl.at_ i x p (by rw [List.getElem?_take, if_pos hlt]; exact hx) ep
          obtain ⟨w1, w2, w3⟩ := wk i p ep
          obtain ⟨s', es, pr, ew⟩ := al.shape w1
          refine ⟨.ref o, rfl, .ref t, rfl, .int (edge ss ws i), rfl, .int cols, rfl, o, high, edge ss ws i, cols, ss, .ref t, true, rfl, al1, .inr (.inr ⟨t, .int p.1, .int p.2, rfl, sameT sm hp, kt_int _, kt_int _, (winB_ok w1 w2 w3).symm⟩), fun H2 s2 => ⟨_, rfl, iteF ?_⟩⟩
          have s12 := sm.trans s2
          refine ⟨.ref t, rfl, t, _, 0, .int p.1, rfl, rfl, sameT s12 hp, rfl, .ref o, rfl, o, dx, _, rfl, s2 _ _ ho, aF_no _ _ (by decide +kernel) (by decide +kernel), .ref t, rfl, t, _, 1, .int p.2, rfl, rfl, sameT s12 hp, rfl, o, high, p.2, ss, s', rfl, (al.same s12).al, es, pr, fun H3 s3 => ⟨p.1, s'.w, rfl, rfl, some (.ref t), ?_, s12.trans s3, hlt⟩⟩
          rw [edge_at ep, ew, Int.natCast_add]
          rfl
        · have ei : i = ws.length := by omega
          subst ei
          rcases h with ⟨e, _⟩ | ⟨y, hy, wq, q⟩
          · have := (List.getElem?_eq_some_iff.mp hx).1
            omega
          · rw [hy] at hx
            cases hx
            exact ⟨.ref o, rfl, x, rfl, .int (edge ss ws ws.length), rfl, .int cols, rfl, o, high, _, cols, ss, x, false, rfl, al1, wq.same sm, fun H2 s2 => ⟨_, rfl, iteT (q H2 (sm.trans s2))⟩⟩
      · rintro σ H1 ⟨y4, rfl, sm, hi⟩
        rcases h with ⟨e, q⟩ | ⟨y, hy, wq, q⟩
        · exact q H1 sm
        · have := (List.getElem?_eq_some_iff.mp hy).1
          omega
end
end Dt
/-! ### text.ljust(n, '.') -/
namespace PySem
open Builtin Builtin.Str Spec Calls
theorem own_gives_ljust (x : Str) (i : Int) (c : Nat) (t u v : Tok) (hr : (decide (i < -(2 ^ 63 : Int)) || decide (i ≥ 2 ^ 63)) = false) (hl : tooLong i.toNat = false) :
    Gives («str.ljust» ⟨[.str x t, .int i u, .str ⟨#[c]⟩ v], []⟩) (if i ≤ x.length then .val (.str x t) else .str (padded x 0 (i.toNat - x.length) c)) := by
  show Gives (do
             let width ← asSsize s!"str.{"ljust"}" (.int i u)
             if width ≤ x.length then (do rule s!"str.{"ljust"}.long-enough"; ret (.str x t)) else
             if tooLong width.toNat = true then unsupported s!"str.{"ljust"}:memory" else retStr (if true = true then padded x 0 (width.toNat - x.length) c else padded x (width.toNat - x.length) 0 c)) _
  rw [asSsize_int _ _ _ hr]
  show Gives (if i ≤ x.length then (do rule s!"str.{"ljust"}.long-enough"; ret (.str x t)) else if tooLong i.toNat = true then unsupported s!"str.{"ljust"}:memory" else retStr (padded x 0 (i.toNat - x.length) c)) _
  rw [hl]
  by_cases h : i ≤ (x.length : Int)
  · rw [if_pos h, if_pos h]; exact .rule (.of_eq rfl)
  · rw [if_neg h, if_neg h]; exact .of_eq rfl
end PySem
namespace L2X
open PySem PySem.Spec PyProof.Rows L2 PySem.Builtin.Str
theorem mt_ljustF {X : Cx} : MtR X "str.ljust" (fun x xs H Q => ∃ (a : Str) (i : Int) (c : Nat), x = .str a ∧ xs = [.int i, .str ⟨#[c]⟩] ∧ PySem.PadOk i = true ∧ Q (.str (if i ≤ (a.length : Int) then a else padded a 0 (i.toNat - a.length) c)) H) := by
  intro pins s σ H x xs v us Q I rx rs h
  obtain ⟨a, i, c, rfl, rfl, hc, h⟩ := h
  obtain ⟨t, rfl⟩ := rx
  cases rs with
  | cons r1 rs =>
    cases rs with
    | cons r2 rs =>
      cases rs
      obtain ⟨u, rfl⟩ := r1
      obtain ⟨z, rfl⟩ := r2
      exact call_gives PySem.F.slot_str_ljust (typeIs_str _ _ _) PySem.F.entry_str_ljust (PySem.F.args_str_ljust_3 _ _ _) (PySem.own_gives_ljust a i c t u z (PySem.PadOk.parts hc).1 (PySem.PadOk.parts hc).2)
        (PySem.post_val_or_made (fits_padR c (PySem.PadOk.parts hc).2) fun t' k => ⟨.str _, H, I.tok k, ⟨t', rfl⟩, h⟩)
end L2X
namespace Dt
open PySem PySem.Spec PyProof.Rows L2 L2X
open SX (S)
/-! ### lines that are drawn -/
def padL (t : List Nat) (c : Nat) : List Nat := t ++ List.replicate (c - t.length) 46
theorem ljust_S (l : List Nat) (n : Nat) : (if (n : Int) ≤ ((S l).length : Int) then S l else PySem.Builtin.Str.padded (S l) 0 ((n : Int).toNat - (S l).length) 46) = S (padL l n) := by
  rw [SX.S_len, Int.toNat_natCast]
  unfold padL
  split
  · rename_i h
    rw [show n - l.length = 0 by omega]
    show S l = S (l ++ [])
    rw [List.append_nil]
  · unfold PySem.Builtin.Str.padded S
    congr 1
    simp
def rowAt (ss : List Sh) (n r : Nat) : List Nat := match ss[n]? with
  | some s => s.rs.getD r []
  | none => []
theorem rowAt_at {ss : List Sh} {n r : Nat} {s : Sh} (h : ss[n]? = some s) : rowAt ss n r = s.rs.getD r [] := by
  unfold rowAt
  rw [h]
def pixS (ss : List Sh) (r c : Nat) (acc : Nat) (p : Nat × Nat) : Nat := if p.1 ≤ c ∧ c < p.1 + wdt ss p.2 then (rowAt ss p.2 r).getD (c - p.1) 0 else acc
def pix (ss : List Sh) (ws : List (Nat × Nat)) (r c : Nat) : Nat := ws.foldl (pixS ss r c) 46
theorem pix_snoc (ss : List Sh) (ws : List (Nat × Nat)) (p : Nat × Nat) (r c : Nat) : pix ss (ws ++ [p]) r c = pixS ss r c (pix ss ws r c) p := by
  unfold pix
  rw [List.foldl_append]
  rfl
def rowT (ss : List Sh) (ws : List (Nat × Nat)) (r : Nat) : List Nat := ws.foldl (fun t p => padL t p.1 ++ rowAt ss p.2 r) []
theorem rowT_snoc (ss : List Sh) (ws : List (Nat × Nat)) (p : Nat × Nat) (r : Nat) : rowT ss (ws ++ [p]) r = padL (rowT ss ws r) p.1 ++ rowAt ss p.2 r := by
  unfold rowT
  rw [List.foldl_append]
  rfl
theorem row_step {e a w : Nat} {f f' : Nat → Nat} {row : List Nat} (h1 : e ≤ a) (hl : row.length = w) (hf : ∀ c, e ≤ c → f c = 46) (hf1 : ∀ c, c < a → f' c = f c) (hf2 : ∀ c, a ≤ c → c < a + w → f' c = row.getD (c - a) 0) :
    padL ((List.range e).map f) a ++ row = (List.range (a + w)).map f' := by
  apply List.ext_getElem?
  intro c
  unfold padL
  have le : ((List.range e).map f).length = e := by rw [List.length_map, List.length_range]
  have lr : ((List.range e).map f ++ List.replicate (a - ((List.range e).map f).length) 46).length = a := by
    rw [List.length_append, List.length_replicate, le]
    omega
  by_cases c1 : c < e
  · rw [List.getElem?_append_left (by omega), List.getElem?_append_left (by omega), List.getElem?_map, List.getElem?_map, List.getElem?_range c1, List.getElem?_range (by omega)]
    show some (f c) = some (f' c)
    rw [hf1 c (by omega)]
  · by_cases c2 : c < a
    · rw [List.getElem?_append_left (by omega), List.getElem?_append_right (by omega), le, List.getElem?_replicate, if_pos (by omega), List.getElem?_map, List.getElem?_range (by omega)]
      show some 46 = some (f' c)
      rw [hf1 c c2, hf c (by omega)]
    · rw [List.getElem?_append_right (by omega), lr, List.getElem?_map]
      by_cases c3 : c < a + w
      · rw [List.getElem?_range c3]
        show _ = some (f' c)
        rw [hf2 c (by omega) c3, List.getD_eq_getElem?_getD, List.getElem?_eq_getElem (by omega)]
        rfl
      · rw [List.getElem?_eq_none (by omega), List.getElem?_eq_none (by rw [List.length_range]; omega)]
        rfl
theorem pad_fin {e n : Nat} {f : Nat → Nat} (h1 : e ≤ n) (hf : ∀ c, e ≤ c → f c = 46) : padL ((List.range e).map f) n = (List.range n).map f := by
  have h := row_step (a := n) (w := 0) (row := []) (f' := f) h1 rfl hf (fun _ _ => rfl) (fun c a b => by omega)
  rw [List.append_nil, Nat.add_zero] at h
  exact h
/-- rows as long as their shapes are wide -/
def RowsW (ss : List Sh) (r : Nat) : Prop := ∀ n, n < ss.length → (rowAt ss n r).length = wdt ss n ∧ ∀ c ∈ rowAt ss n r, c = 35 ∨ c = 46
theorem rowsW_of {ss : List Sh} {high r : Nat} (h : ∀ s ∈ ss, PicR high s.w s.rs) (hr : r < high) : RowsW ss r := by
  intro n hn
  have es : ss[n]? = some ss[n] := List.getElem?_eq_getElem hn
  have p := h _ (List.getElem_mem hn)
  generalize ss[n] = s at es p
  rw [rowAt_at es, wdt_at es]
  have er : s.rs[r]? = some (s.rs[r]'(by rw [p.len]; exact hr)) := List.getElem?_eq_getElem (by rw [p.len]; exact hr)
  rw [List.getD_eq_getElem?_getD, er]
  have q := p.row _ (List.mem_of_getElem? er)
  exact ⟨q.len, q.sg⟩
theorem rowT_pix {ss : List Sh} {ws : List (Nat × Nat)} {cols r : Nat} (w : WayOk ss cols ws) (R : RowsW ss r) : ∀ k, k ≤ ws.length → rowT ss (ws.take k) r = (List.range (edge ss ws k)).map (pix ss (ws.take k) r) ∧ ∀ c, edge ss ws k ≤ c → pix ss (ws.take k) r c = 46
  | 0, _ => by
    rw [List.take_zero]
    exact ⟨rfl, fun c _ => rfl⟩
  | k + 1, h => by
    obtain ⟨i1, i2⟩ := rowT_pix w R k (by omega)
    have ep : ws[k]? = some ws[k] := List.getElem?_eq_getElem (by omega)
    generalize ws[k] = p at ep
    obtain ⟨w1, w2, w3⟩ := w k p ep
    rw [take_snoc ep, edge_at ep, rowT_snoc, i1]
    refine ⟨row_step w2 (R p.2 w1).1 i2 (fun c hc => ?_) (fun c h1 h2 => ?_), fun c hc => ?_⟩
    · rw [pix_snoc]
      unfold pixS
      rw [if_neg (by omega)]
    · rw [pix_snoc]
      unfold pixS
      rw [if_pos ⟨h1, h2⟩]
    · rw [pix_snoc]
      unfold pixS
      rw [if_neg (by omega)]
      exact i2 c (by omega)
theorem edge_le {ss : List Sh} {ws : List (Nat × Nat)} {cols : Nat} (w : WayOk ss cols ws) : edge ss ws ws.length ≤ cols := by
  rcases Nat.eq_zero_or_pos ws.length with e | e
  · rw [e]
    exact Nat.zero_le _
  · obtain ⟨n, en⟩ : ∃ n, ws.length = n + 1 := ⟨ws.length - 1, by omega⟩
    have e2 : ws[n]? = some (ws[n]'(by omega)) := List.getElem?_eq_getElem (by omega)
    rw [en, edge_at e2]
    exact (w n _ e2).2.2
theorem row_pix {ss : List Sh} {ws : List (Nat × Nat)} {cols r : Nat} (w : WayOk ss cols ws) (R : RowsW ss r) : padL (rowT ss ws r) cols = (List.range cols).map (pix ss ws r) := by
  obtain ⟨h1, h2⟩ := rowT_pix w R ws.length (Nat.le_refl _)
  rw [List.take_length] at h1 h2
  rw [h1]
  exact pad_fin (edge_le w) h2
/-- the line that a way sets -/
def drawR (ss : List Sh) (high cols : Nat) (ws : List (Nat × Nat)) : List (List Nat) := (List.range high).map fun r => (List.range cols).map (pix ss ws r)
theorem pix_ok {ss : List Sh} {r c : Nat} (R : RowsW ss r) : ∀ {ws : List (Nat × Nat)}, (∀ p ∈ ws, p.2 < ss.length) → pix ss ws r c = 35 ∨ pix ss ws r c = 46 := by
  have key : ∀ (ws : List (Nat × Nat)) (acc : Nat), (∀ p ∈ ws, p.2 < ss.length) → (acc = 35 ∨ acc = 46) → (ws.foldl (pixS ss r c) acc = 35 ∨ ws.foldl (pixS ss r c) acc = 46) := by
    intro ws
    induction ws with
    | nil => intro acc _ h; exact h
    | cons p t ih =>
      intro acc h ha
      refine ih _ (fun q hq => h q (List.mem_cons_of_mem _ hq)) ?_
      unfold pixS
      split
      · rename_i hc
        obtain ⟨l, o⟩ := R p.2 (h p List.mem_cons_self)
        rw [List.getD_eq_getElem?_getD, List.getElem?_eq_getElem (by omega)]
        exact o _ (List.getElem_mem _)
      · exact ha
  intro ws h
  exact key ws 46 h (.inr rfl)
theorem WayOk.num {ss : List Sh} {cols : Nat} {ws : List (Nat × Nat)} (w : WayOk ss cols ws) : ∀ p ∈ ws, p.2 < ss.length := fun p hp => by
  obtain ⟨i, hi⟩ := List.mem_iff_getElem?.mp hp
  exact (w i p hi).1
theorem draw_pic {ss : List Sh} {high cols : Nat} {ws : List (Nat × Nat)} (h : ∀ s ∈ ss, PicR high s.w s.rs) (w : WayOk ss cols ws) (h0 : 1 ≤ high) (h1 : high ≤ 60) (c0 : 1 ≤ cols) (c1 : cols ≤ 120) : PicR high cols (drawR ss high cols ws) := by
  refine ⟨by unfold drawR; rw [List.length_map, List.length_range], fun l hl => ?_, h0, h1, c0, c1⟩
  obtain ⟨r, hr, rfl⟩ := List.mem_map.mp hl
  refine ⟨by rw [List.length_map, List.length_range], fun x hx => ?_⟩
  obtain ⟨c, _, rfl⟩ := List.mem_map.mp hx
  exact pix_ok (rowsW_of h (List.mem_range.mp hr)) w.num
/-! ### how many places differ -/
theorem sum_add {α : Type} (f g : α → Nat) : ∀ l : List α, (l.map fun x => f x + g x).sum = (l.map f).sum + (l.map g).sum
  | [] => rfl
  | x :: r => by
    rw [List.map_cons, List.map_cons, List.map_cons, List.sum_cons, List.sum_cons, List.sum_cons, sum_add f g r]
    omega
theorem sum_zero {α : Type} : ∀ l : List α, (l.map fun _ => 0).sum = 0
  | [] => rfl
  | x :: r => by
    rw [List.map_cons, List.sum_cons, sum_zero r]
theorem sum_swap {α β : Type} (f : α → β → Nat) (m : List β) : ∀ l : List α, (l.map fun a => (m.map fun b => f a b).sum).sum = (m.map fun b => (l.map fun a => f a b).sum).sum
  | [] => by
    show 0 = (m.map fun _ => 0).sum
    rw [sum_zero]
  | a :: r => by
    rw [List.map_cons, List.sum_cons, sum_swap f m r, ← sum_add]
    rfl
theorem len_filter {α : Type} (p : α → Bool) : ∀ l : List α, (l.filter p).length = (l.map fun x => if p x = true then 1 else 0).sum
  | [] => rfl
  | x :: r => by
    rw [List.filter_cons, List.map_cons, List.sum_cons, ← len_filter p r]
    split
    · rw [List.length_cons]
      omega
    · omega
theorem zip_range {α : Type} (d : α) {β : Type} (g : Nat → β) {l : List α} {w : Nat} (h : l.length = w) : l.zip ((List.range w).map g) = (List.range w).map fun c => (l.getD c d, g c) := by
  apply List.ext_getElem?
  intro c
  by_cases hc : c < w
  · rw [List.getElem?_map, List.getElem?_range hc]
    refine List.getElem?_zip_eq_some.mpr ⟨?_, ?_⟩
    · show l[c]? = some (l.getD c d)
      rw [List.getD_eq_getElem?_getD, List.getElem?_eq_getElem (by omega)]
      rfl
    · rw [List.getElem?_map, List.getElem?_range hc]
      rfl
  · rw [List.getElem?_eq_none (by rw [List.length_zip, List.length_map, List.length_range]; omega), List.getElem?_eq_none (by rw [List.length_map, List.length_range]; omega)]
def dif (rs : List (List Nat)) (f : Nat → Nat → Nat) (r c : Nat) : Nat := if decide ((rs.getD r []).getD c 0 ≠ f r c) = true then 1 else 0
theorem misZ_pix {l : List Nat} {w : Nat} {g : Nat → Nat} (h : l.length = w) : misZ l ((List.range w).map g) = ((List.range w).map fun c => if decide (l.getD c 0 ≠ g c) = true then 1 else 0).sum := by
  unfold misZ
  rw [zip_range 0 g h, List.filter_map, List.length_map, len_filter]
  rfl
theorem cast_sum {α : Type} (f : α → Nat) : ∀ l : List α, (l.map fun x => (f x : Int)).sum = (((l.map f).sum : Nat) : Int)
  | [] => rfl
  | x :: r => by
    rw [List.map_cons, List.map_cons, List.sum_cons, List.sum_cons, cast_sum f r, Int.natCast_add]
theorem misP_pix {high wide : Nat} {rs : List (List Nat)} {f : Nat → Nat → Nat} (R : RowsR high wide rs) : misP rs ((List.range high).map fun r => (List.range wide).map (f r)) = ((((List.range wide).map fun c => ((List.range high).map fun r => dif rs f r c).sum).sum : Nat) : Int) := by
  unfold misP
  rw [zip_range [] _ R.len, List.map_map]
  have e : ((fun p : List Nat × List Nat => (misZ p.1 p.2 : Int)) ∘ fun r => (rs.getD r [], (List.range wide).map (f r))) = fun r => (misZ (rs.getD r []) ((List.range wide).map (f r)) : Int) := rfl
  rw [e, cast_sum, ← sum_swap]
  congr 2
  refine List.map_congr_left fun r hr => ?_
  have hr' := List.mem_range.mp hr
  have er : rs[r]? = some (rs[r]'(by rw [R.len]; exact hr')) := List.getElem?_eq_getElem (by rw [R.len]; exact hr')
  have ed : rs.getD r [] = rs[r]'(by rw [R.len]; exact hr') := by
    rw [List.getD_eq_getElem?_getD, er]
    rfl
  rw [ed, misZ_pix (R.row _ (List.getElem_mem _)).len]
  unfold dif
  rw [ed]
/-- a column's places that differ -/
theorem col_dif {high wide : Nat} {rs : List (List Nat)} {f : Nat → Nat → Nat} {c : Nat} (R : RowsR high wide rs) : ((rs.zip ((List.range high).map fun r => f r c)).filter fun q => decide (q.1.getD c 0 ≠ q.2)).length = ((List.range high).map fun r => dif rs f r c).sum := by
  rw [zip_range [] _ R.len, List.filter_map, List.length_map, len_filter]
  rfl
end Dt
namespace Dt
open PySem PySem.Spec PyProof.Rows L2 L2X
open SX (S)
abbrev sWL : Stmt := topS 36
theorem scWL : FnScope ["alphabet", "thing"] ["alphabet", "thing"] (defScope sWL) := ⟨rfl, rfl, rfl, by decide +kernel, rfl, by decide +kernel, by decide +kernel⟩
def spWL (C : Addr) : Sp := fun vs H Q _ => ∃ (o a : Addr) (high wide : Nat) (ss : List Sh) (rs : List (List Nat)), vs = [.ref o, .ref a] ∧ AlpAt C H o high ss ∧ H a = some (.tup (rs.map rv)) ∧ PicR high wide rs ∧ wide ≤ 60 ∧ ∀ H', Same H H' → Q .non H'
theorem cut_pic {high wide c w : Nat} {rs : List (List Nat)} (pr : PicR high wide rs) (h : c + w ≤ wide) (w0 : 1 ≤ w) : PicR high w (cutR rs 0 c high w) := by
  have w1 := pr.w1
  refine ⟨?_, fun l hl => ?_, pr.h0, pr.h1, w0, by omega⟩
  · unfold cutR
    rw [List.length_map, List.length_take, List.length_drop, pr.len]
    omega
  · obtain ⟨r, hr, rfl⟩ := List.mem_map.mp hl
    have rr := pr.row r (List.mem_of_mem_drop (List.mem_of_mem_take hr))
    refine ⟨?_, fun x hx => rr.sg x (List.mem_of_mem_drop (List.mem_of_mem_take hx))⟩
    rw [List.length_take, List.length_drop, rr.len]
    omega
section
variable {P : Program} {w : World} {K : PySem.W.Frag} {mg : Str → Option Value} {base : Heap} {C CA CP : Addr}
theorem ok_wl {f : Addr} {fd : FuncData} {k : Nat} (F : Fun K "want_line" "want_line" sWL f fd) (TA : Tal K mg CA) (ml : ∃ t, mg "MOST_LINE_COLUMNS" = some (.int 60 t)) (GI : Pm P w K mg base CX0 (k + 1) "is_picture" ["thing"] (spIsPic K)) (GZ : GS P w K mg base C (k + 1)) (GH : Mm P w K mg base (k + 1) CA "high" ["self"] (spAH CA)) : FnOk P w K mg base CX0 (k + 2) f fd ["alphabet", "thing"] (spWL CA) := by
  obtain ⟨fI, fdI, GI, mI, kI, bI⟩ := GI.ex
  obtain ⟨fZ, fdZ, GZ, mZ, kZ, bZ⟩ := GZ.ex
  obtain ⟨fH, fdH, GH, mH, bH⟩ := GH.ex
  obtain ⟨tl, hml⟩ := ml
  refine F.ok scWL (fun vs H Q E h => ?_) (fun cdv A outer s H vs Q E hr h => ?_)
  · obtain ⟨o, a, _, _, _, _, rfl, _⟩ := h
    rfl
  · obtain ⟨o, a, high, wide, ss, rs, rfl, al, ha, pr, w6, q⟩ := h
    refine ⟨_, pss_one (ps_if (PW.pt (pw_or (pt_not (pt_val (pe_call GI hr (by rfl) mI kI bI .nil pass0 (pa_cons (pv 1) pa_nil)))) (pw_or (pt_cmpR op_ne (pe_ix (r := rIxT K) ix_tup (pe_call GZ hr (by rfl) mZ kZ bZ .nil passX0 (pa_cons (pv 1) pa_nil)) pe_int (fun _ _ => rfl)) (pe_meth0 (pv 0) TA.cl mH GH hr bH .nil pass0) (nomark _))
        (pw_or1 (pt_cmpR op_gt (pe_ix (r := rIxT K) ix_tup (pe_call GZ hr (by rfl) mZ kZ bZ .nil passX0 (pa_cons (pv 1) pa_nil)) pe_int (fun _ _ => rfl)) (pe_glob (v := .int 60) (by rfl) hml ⟨_, rfl⟩) (nomark _)))))) pss_never pss_nil), ?_⟩
    have pz := picSize pr
    refine ⟨.ref a, rfl, .ref a, true, rfl, askPic pr ha, fun H1 s1 => ⟨_, rfl, iteF ?_⟩⟩
    refine ⟨.ref a, rfl, .ref a, rfl, .inr ⟨a, _, rfl, SqT.of (s1 _ _ ha), kn_rows pr, picOk_pic pr, fun p3 H3 s3 n3 h3 => ?_⟩⟩
    rw [pz.1, pz.2] at h3
    have s13 := s1.trans s3
    have al3 := al.same s13
    obtain ⟨dx, t, xs, ho, ht, Ss⟩ := id al3
    refine ⟨p3, _, 0, .int high, rfl, rfl, SqT.of h3, rfl, .ref o, rfl, o, dx, _, rfl, ho, aF_no _ _ (by decide +kernel) (by decide +kernel), o, high, ss, rfl, al3, rfl, _, rfl, ?_⟩
    have e1 : (!decide (V.int (high : Int) = V.int (high : Int))) = false := by
      rw [decide_eq_true rfl]
      rfl
    rw [e1]
    refine iteF ⟨.ref a, rfl, .ref a, rfl, .inr ⟨a, _, rfl, SqT.of (s13 _ _ ha), kn_rows pr, picOk_pic pr, fun p4 H4 s4 n4 h4 => ?_⟩⟩
    rw [pz.1, pz.2] at h4
    refine ⟨p4, _, 1, .int wide, rfl, rfl, SqT.of h4, rfl, wide, 60, rfl, rfl, _, rfl, ?_⟩
    exact iteE (decide_eq_false (by omega)) (q H4 (s13.trans s4))
end
end Dt
namespace Dt
open PySem PySem.Spec PyProof.Rows L2 L2X
open SX (S)
theorem pad_ok : ∀ n : Nat, n ≤ 120 → PySem.PadOk (n : Int) = true := by
  have : ∀ n : Fin 121, PySem.PadOk (n.val : Int) = true := by decide +kernel
  intro n h
  exact this ⟨n, by omega⟩
abbrev sRD : Stmt := topS 35
theorem scRD : FnScope ["pictures", "wide", "reading", "row", "text", "column", "number"] ["pictures", "wide", "reading", "row"] (defScope sRD) := ⟨rfl, rfl, rfl, by decide +kernel, rfl, by decide +kernel, by decide +kernel⟩
def spRD (K : PySem.W.Frag) : Sp := fun vs H Q _ => ∃ (l a : Addr) (high wide r : Nat) (pvs zs : List V) (ss : List Sh) (ws : List (Nat × Nat)), vs = [.ref l, .int wide, .ref a, .int r] ∧ H l = some (.lst pvs) ∧ Pcs H pvs ss ∧ (∀ s ∈ ss, PicR high s.w s.rs) ∧ SqT K H a zs ∧ Plc K H zs ws ∧ WayOk ss wide ws ∧ wide ≤ 60 ∧ r < high ∧ Q (rv ((List.range wide).map (pix ss ws r))) H
abbrev sDr : Stmt := topS 34
abbrev nDr : List Str := ["alphabet", "wide", "reading", "pictures", "_", "picture", "row"]
theorem scDr : FnScope nDr ["alphabet", "wide", "reading"] (defScope sDr) := ⟨rfl, rfl, rfl, by decide +kernel, rfl, by decide +kernel, by decide +kernel⟩
def spDr (K : PySem.W.Frag) (C CN CL : Addr) : Sp := fun vs H Q E => ∃ (o : Addr) (high : Nat) (ss : List Sh) (z x : V), vs = [.ref o, z, x] ∧ AlpG C H o high ss ∧ Kt K H z ∧
  ((betw z 1 60 = false ∧ ∀ H', Same H H' → E (.ref CL) none H') ∨ ∃ cols : Nat, z = .int cols ∧ 1 ≤ cols ∧ cols ≤ 60 ∧ ((BadR K H ss cols x ∧ ∀ H', Same H H' → E (.ref CN) none H') ∨ ∃ ws, GoodR K H ss cols x ws ∧ ∀ (p : Addr) H', Same H H' → H p = none → H' p = some (.tup ((drawR ss high cols ws).map rv)) → Q (.ref p) H'))
abbrev sCo : Stmt := topS 33
theorem scCo : FnScope ["alphabet", "line", "reading"] ["alphabet", "line", "reading"] (defScope sCo) := ⟨rfl, rfl, rfl, by decide +kernel, rfl, by decide +kernel, by decide +kernel⟩
def spCo (K : PySem.W.Frag) (C CN : Addr) : Sp := fun vs H Q E => ∃ (o a : Addr) (high wide : Nat) (ss : List Sh) (rs : List (List Nat)) (x : V), vs = [.ref o, .ref a, x] ∧ AlpG C H o high ss ∧ H a = some (.tup (rs.map rv)) ∧ PicR high wide rs ∧ wide ≤ 60 ∧
  ((BadR K H ss wide x ∧ ∀ H', Same H H' → E (.ref CN) none H') ∨ ∃ ws, GoodR K H ss wide x ws ∧ ∀ H', Same H H' → Q (.int (misP rs (drawR ss high wide ws))) H')
section
variable {P : Program} {w : World} {K : PySem.W.Frag} {mg : Str → Option Value} {base : Heap} {C CA CN CL CP : Addr}
theorem ok_rd {f : Addr} {fd : FuncData} {k : Nat} (F : Fun K "_row_drawn" "_row_drawn" sRD f fd) : FnOk P w K mg base CX0 (k + 1) f fd ["pictures", "wide", "reading", "row"] (spRD K) := by
  refine F.ok scRD (fun vs H Q E h => ?_) (fun cdv A outer s H vs Q E hr h => ?_)
  · obtain ⟨l, a, _, _, _, _, _, _, _, rfl, _⟩ := h
    rfl
  · obtain ⟨l, a, high, wide, r, pvs, zs, ss, ws, rfl, hl, Ps, pr, ha, pl, wk, w60, hr', q⟩ := h
    have nd := scRD.nd
    refine ⟨_, pss_cons (ps_set (i := 4) nd rfl (.inl rfl) pe_str)
      (pss_cons (ps_for PassesOwn.never rfl (pi_tup (pv 2)) (pg_tup rfl (pgs_cons (pg_name (i := 5) nd rfl (Or.inl rfl)) (pgs_cons (pg_name (i := 6) nd rfl (Or.inl rfl)) pgs_nil)))
        (pss_one (ps_set (i := 4) nd rfl (.inl rfl) (pe_op op_add_str (pe_bm PySem.F.plainAttrs_str PySem.F.slot_str_ljust PySem.F.type_str_ljust mt_ljustF (pv 4) (pa_cons (pv 5) (pa_cons pe_str pa_nil))) (pe_ix (r := rIxT K) ix_tup (pe_ix (r := rIxL K) ix_list (pv 0) (pv 6) (fun _ _ => rfl)) (pv 3) (fun _ _ => rfl))))))
      (pss_one (ps_ret (pe_bm PySem.F.plainAttrs_str PySem.F.slot_str_ljust PySem.F.type_str_ljust mt_ljustF (pv 4) (pa_cons (pv 1) (pa_cons pe_str pa_nil)))))), ?_⟩
    have R := rowsW_of pr hr'
    have lz := pl.len
    have dot : ∀ c : Nat, ([V.int (c : Int), V.str "."] : List V) = [V.int (c : Int), V.str ⟨#[46]⟩] := fun c => by
      rw [s_dot]
    rw [s_empty]
    refine ⟨.ref a, rfl, a, rfl, ⟨_, ha⟩, for_tup (K := K) (a := a) (xs := zs) (fun i σ H1 => H1 = H ∧ ∃ y5 y6, σ = [some (.ref l), some (.int wide), some (.ref a), some (.int r), some (rv (rowT ss (ws.take i) r)), y5, y6]) ⟨rfl, none, none, rfl⟩ (fun i σ H1 _ z => by
      obtain ⟨rfl, _⟩ := z
      exact ha) ?_ ?_⟩
    · rintro i x σ H1 hx ⟨rfl, y5, y6, rfl⟩
      have hi : i < ws.length := by
        rw [← lz]
        exact (List.getElem?_eq_some_iff.mp hx).1
      have ep : ws[i]? = some ws[i] := List.getElem?_eq_getElem hi
      generalize ws[i] = p at ep
      obtain ⟨t, rfl, hp⟩ := pl.at_ i x p hx ep
      obtain ⟨w1, w2, w3⟩ := wk i p ep
      have es : ss[p.2]? = some ss[p.2] := List.getElem?_eq_getElem w1
      have prp := pr _ (List.getElem_mem w1)
      have ra := rowAt_at (r := r) es
      generalize ss[p.2] = s' at es prp ra
      have lp := Ps.len
      have ev : pvs[p.2]? = some (pvs[p.2]'(by omega)) := List.getElem?_eq_getElem (by omega)
      obtain ⟨pp, epp, hpp⟩ := Ps.at_ p.2 _ s' ev es
      rw [epp] at ev
      have er : s'.rs[r]? = some (s'.rs[r]'(by rw [prp.len]; exact hr')) := List.getElem?_eq_getElem (by rw [prp.len]; exact hr')
      have er2 : s'.rs.getD r [] = s'.rs[r]'(by rw [prp.len]; exact hr') := by
        rw [List.getD_eq_getElem?_getD, er]
        rfl
      obtain ⟨i1, i2⟩ := rowT_pix wk R i (by omega)
      refine ⟨t, _, rfl, hp, rfl, _, _, rfl, _, _, rfl, rfl, ?_⟩
      refine ⟨rv (rowT ss (ws.take i) r), rfl, rfl, .int p.1, rfl, S (rowT ss (ws.take i) r), p.1, 46, rfl, dot p.1, pad_ok p.1 (by omega), ?_⟩
      rw [ljust_S]
      refine ⟨.ref l, rfl, .int p.2, rfl, l, _, (p.2 : Int), .ref pp, rfl, rfl, SqL.of hl, atI_nat ev, .int r, rfl, pp, _, (r : Int), rv (rowAt ss p.2 r), rfl, rfl, SqT.of hpp, atI_nat (by rw [List.getElem?_map, er, ra, er2]; rfl), S (padL (rowT ss (ws.take i) r) p.1), S (rowAt ss p.2 r), rfl, rfl, ?_, ?_⟩
      · have l1 := (R p.2 w1).1
        have l2 : (rowT ss (ws.take i) r).length = edge ss ws i := by rw [i1, List.length_map, List.length_range]
        rw [SX.S_len, SX.S_len, l1]
        unfold padL
        rw [List.length_append, List.length_replicate, l2]
        exact Nat.le_of_lt (small1000 (by omega))
      · rw [SX.S_cat]
        refine ⟨rfl, some (.int p.1), some (.int p.2), ?_⟩
        rw [take_snoc ep, rowT_snoc]
        rfl
    · rintro σ H1 ⟨rfl, y5, y6, rfl⟩
      have e5 : ws.take zs.length = ws := by rw [lz, List.take_length]
      rw [e5]
      refine ⟨rv (rowT ss ws r), rfl, rfl, .int wide, rfl, S (rowT ss ws r), wide, 46, rfl, dot wide, pad_ok wide (by omega), ?_⟩
      rw [ljust_S, row_pix wk R]
      exact q
theorem ok_dr {f : Addr} {fd : FuncData} {k : Nat} (F : Fun K "drawn" "drawn" sDr f fd) (T : Tx mg) (TA : Tal K mg CA) (NL : ExN K mg "NoLine" CL) (ml : ∃ t, mg "MOST_LINE_COLUMNS" = some (.int 60 t)) (GR : Pm P w K mg base (L2.CX P w) (k + 1) "want_reading" ["alphabet", "columns", "thing"] (spWR K CA CN))
    (GB : Pm P w K mg base CX0 (k + 1) "is_between" ["thing", "least", "most"] (spBetw K)) (GS : Mm P w K mg base (k + 1) CA "shapes" ["self"] (spAS CA)) (GH : Mm P w K mg base (k + 1) CA "high" ["self"] (spAH CA)) (GD : Pm P w K mg base CX0 (k + 1) "_row_drawn" ["pictures", "wide", "reading", "row"] (spRD K)) :
    FnOk P w K mg base (L2.CX P w) (k + 2) f fd ["alphabet", "wide", "reading"] (spDr K CA CN CL) := by
  obtain ⟨fR, fdR, GR, mR, kR, bR⟩ := GR.ex
  obtain ⟨fB, fdB, GB, mB, kB, bB⟩ := GB.ex
  obtain ⟨fS, fdS, GS, mS, bS⟩ := GS.ex
  obtain ⟨fH, fdH, GH, mH, bH⟩ := GH.ex
  obtain ⟨fD, fdD, GD, mD, kD, bD⟩ := GD.ex
  obtain ⟨tl, hml⟩ := ml
  refine F.okX scDr (fun vs H Q E h => ?_) (fun cdv A outer s H vs Q E hr h => ?_)
  · obtain ⟨o, _, _, z, x, rfl, _⟩ := h
    rfl
  · obtain ⟨o, high, ss, z, x, rfl, al, kz, h⟩ := h
    have nd := scDr.nd
    refine ⟨_, pss_cons (ps_if (pt_not (pt_val (pe_call GB hr (by rfl) mB kB bB .nil pass0 (pa_cons (pv 1) (pa_cons pe_int (pa_cons (pe_glob (v := .int 60) (by rfl) hml ⟨_, rfl⟩) pa_nil)))))) (pss_one (ps_raise rfl (takes_of rfl rfl rfl rfl) (pmk_own PySem.F.excBase_ValueError NL.x NL.g NL.k (raises_own NL.b NL.t) rfl))) pss_nil)
      (pss_cons (ps_expr (pe_callS GR hr (by rfl) mR kR bR (fun σ => passAt (takes_of rfl rfl rfl rfl) σ) (pa_cons (pv 0) (pa_cons (pv 1) (pa_cons (pv 2) pa_nil)))))
      (C8.pss_cut (ps_set (i := 3) nd rfl (.inr rfl) (pe_lc (own := [("_", 4), ("picture", 5)]) (g := gTup K 2 (gCons (gName 4) (gCons (gName 5) gNil))) (tt := tYes) rfl nd (pi_list (pe_meth0 (pv 0) TA.cl mS GS hr bS .nil pass0)) (blkOk_by (N := nDr) (sc := defScope sDr) (by decide +kernel))
          (fun _ _ _ _ _ => pg_tup rfl (pgs_cons (pg_name (i := 4) nd rfl (Or.inl rfl)) (pgs_cons (pg_name (i := 5) nd rfl (Or.inl rfl)) pgs_nil))) (fun _ _ _ _ _ => pts_nil) (fun _ _ _ _ _ => pv 5)))
      (pss_one (ps_ret (pe_callTy call_tuple_of (by rfl) T.tuple (by decide +kernel) (pa_cons (pe_lc (own := [("row", 6)]) (g := gName 6) (tt := tYes) rfl nd (pi_range1 rfl T.range (pa_cons (pe_meth0 (pv 0) TA.cl mH GH hr bH .nil pass0) pa_nil)) (blkOk_by (N := nDr) (sc := defScope sDr) (by decide +kernel)) (fun _ _ _ _ _ => pg_name (i := 6) nd rfl (Or.inl rfl)) (fun _ _ _ _ _ => pts_nil)
          (fun _ _ _ _ _ => pe_call GD hr (by rfl) mD kD bD .nil pass0 (pa_cons (pv 3) (pa_cons (pv 1) (pa_cons (pv 2) (pa_cons (pv 6) pa_nil)))))) pa_nil)))))), ?_⟩
    rcases h with ⟨bad, q⟩ | ⟨cols, rfl, c1, c60, h⟩
    · refine ⟨z, rfl, z, 1, 60, rfl, kz, _, rfl, ?_⟩
      rw [bad]
      exact iteT (q H (Same.refl H))
    have eb : betw (.int cols) 1 60 = true := by
      rw [betw_int, decide_eq_true (by omega), decide_eq_true (by omega)]
      rfl
    refine ⟨.int cols, rfl, .int cols, 1, 60, rfl, kz, _, rfl, ?_⟩
    rw [eb]
    refine iteF ?_
    rcases h with ⟨bad, q⟩ | ⟨ws, gd, q⟩
    · exact ⟨.ref o, rfl, .int cols, rfl, x, rfl, o, high, cols, ss, x, rfl, al, .inl ⟨bad, q⟩⟩
    refine ⟨.ref o, rfl, .int cols, rfl, x, rfl, o, high, cols, ss, x, rfl, al, .inr ⟨ws, gd, fun H1 s1 => ?_⟩⟩
    have al1 := al.same s1
    obtain ⟨a, zs, rfl, ha, pl, wk⟩ := gd.same s1
    have l16 := al.l16
    obtain ⟨dx, t, ys0, ho, hts, Ss⟩ := id al1.al
    refine ⟨fun σ' H' => ∃ l pvs, σ' = [some (.ref o), some (.int cols), some (.ref a), some (.ref l), none, none, none] ∧ Same H1 H' ∧ H' l = some (.lst pvs) ∧ Pcs H' pvs ss, ?_, ?_⟩
    · refine ⟨.ref o, rfl, o, dx, _, rfl, ho, aF_no _ _ (by decide +kernel) (by decide +kernel), o, high, ss, rfl, al1.al, fun l ys H2 s2 nl hl Sl => ⟨l, rfl, ⟨_, SqL.of hl⟩, fun D hD => lc_list (K := K) (a := l) (xs := ys) (fun i H3 => Same H2 H3 ∧ ∃ pvs, H3 D = some (.lst pvs) ∧ Pcs H3 pvs (ss.take i)) ⟨same_upd hD, [], upd_same, ⟨rfl, fun i z s h => nomatch h⟩⟩ (fun i H3 _ z => SqL.of (z.1 _ _ hl)) ?_ ?_⟩⟩
      · rintro i y H3 hy ⟨sm, pvs, h3, P3⟩
        have hi : i < ss.length := by
          rw [← Sl.len]
          exact (List.getElem?_eq_some_iff.mp hy).1
        have es : ss[i]? = some ss[i] := List.getElem?_eq_getElem hi
        generalize ss[i] = s' at es
        obtain ⟨t2, p2, rfl, ht2, hp2⟩ := Sl.at_ i y s' hy es
        refine ⟨t2, _, rfl, SqT.of (sm _ _ ht2), rfl, _, _, rfl, _, _, rfl, rfl, rfl, .ref p2, rfl, _, h3, ?_, same_over sm hD, pvs ++ [.ref p2], upd_same, ?_⟩
        · rw [P3.len, List.length_take]
          exact small1000 (by omega)
        · rw [take_snoc es]
          refine Pcs.add (P3.updl h3) ?_
          rw [upd_ne (ne_of (sm _ _ hp2) h3 (by intro q; cases q))]
          exact sm _ _ hp2
      · rintro H3 ⟨sm, pvs, h3, P3⟩
        rw [Sl.len, List.take_length] at P3
        exact ⟨D, pvs, rfl, s2.trans sm, h3, P3⟩
    rintro _ H2 ⟨l, pvs, rfl, s2, hl, Ps⟩
    have al2 := al1.same s2
    obtain ⟨dx2, t2, ys2, ho2, hts2, Ss2⟩ := id al2.al
    have pr0 := al.pr
    have high0 : 1 ≤ high ∧ high ≤ 60 := by
      have p := pr0 _ (List.getElem_mem al.l1)
      exact ⟨p.h0, p.h1⟩
    refine ⟨.ref o, rfl, o, dx2, _, rfl, ho2, aF_no _ _ (by decide +kernel) (by decide +kernel), o, high, ss, rfl, al2.al, high, rfl, by omega, by omega, fun D hD => lc_range (lo := 0) (n := high) (fun i H3 => Same H2 H3 ∧ H3 D = some (.lst (((drawR ss high cols ws).take i).map rv))) ⟨same_upd hD, upd_same⟩ ?_ ?_⟩
    · rintro i H3 hi ⟨sm, h3⟩
      have e0 : (0 + (i : Int)) = (i : Int) := Int.zero_add _
      rw [e0]
      have ed : (drawR ss high cols ws)[i]? = some ((List.range cols).map (pix ss ws i)) := by
        unfold drawR
        rw [List.getElem?_map, List.getElem?_range hi]
        rfl
      refine ⟨rfl, .ref l, rfl, .int cols, rfl, .ref a, rfl, .int i, rfl, l, a, high, cols, i, pvs, zs, ss, ws, rfl, sm _ _ hl, Ps.same sm, pr0, sameT (s2.trans sm) ha, pl.same (s2.trans sm), wk, c60, hi, _, h3, ?_, same_over sm hD, ?_⟩
      · rw [List.length_map, List.length_take]
        exact small1000 (by omega)
      · rw [upd_same, take_snoc ed, List.map_append]
        rfl
    · rintro H3 ⟨sm, h3⟩
      have e3 : (drawR ss high cols ws).take high = drawR ss high cols ws := List.take_of_length_le (by unfold drawR; rw [List.length_map, List.length_range]; exact Nat.le_refl _)
      rw [e3] at h3
      refine ⟨D, _, rfl, .inl ⟨SqL.of h3, fun p hp => ?_⟩⟩
      have s13 := (s1.trans s2).trans sm
      exact q p _ (s13.trans (same_upd hp)) (s13.free hp) upd_same
theorem ok_co {f : Addr} {fd : FuncData} {k : Nat} (F : Fun K "cost" "cost" sCo f fd) (GL : Pm P w K mg base CX0 (k + 1) "want_line" ["alphabet", "thing"] (spWL CA)) (GZ : GS P w K mg base C (k + 1)) (GD : Pm P w K mg base (L2.CX P w) (k + 1) "drawn" ["alphabet", "wide", "reading"] (spDr K CA CN CL)) (GU : Pm P w K mg base (L2.CX P w) (k + 1) "unlike" ["one", "other"] (spUnlP CP)) :
    FnOk P w K mg base (L2.CX P w) (k + 2) f fd ["alphabet", "line", "reading"] (spCo K CA CN) := by
  obtain ⟨fL, fdL, GL, mL, kL, bL⟩ := GL.ex
  obtain ⟨fZ, fdZ, GZ, mZ, kZ, bZ⟩ := GZ.ex
  obtain ⟨fD, fdD, GD, mD, kD, bD⟩ := GD.ex
  obtain ⟨fU, fdU, GU, mU, kU, bU⟩ := GU.ex
  refine F.okX scCo (fun vs H Q E h => ?_) (fun cdv A outer s H vs Q E hr h => ?_)
  · obtain ⟨o, a, _, _, _, _, x, rfl, _⟩ := h
    rfl
  · obtain ⟨o, a, high, wide, ss, rs, x, rfl, al, ha, pr, w60, h⟩ := h
    refine ⟨_, pss_cons (ps_expr (pe_call GL hr (by rfl) mL kL bL .nil pass0 (pa_cons (pv 0) (pa_cons (pv 1) pa_nil))))
      (pss_one (ps_ret (pe_call GU hr (by rfl) mU kU bU .nil passX0 (pa_cons (pv 1) (pa_cons (pe_callS GD hr (by rfl) mD kD bD (fun σ => passAt (takes_of rfl rfl rfl rfl) σ) (pa_cons (pv 0) (pa_cons (pe_ix (r := rIxT K) ix_tup (pe_call GZ hr (by rfl) mZ kZ bZ .nil passX0 (pa_cons (pv 1) pa_nil)) pe_int (fun _ _ => rfl)) (pa_cons (pv 2) pa_nil)))) pa_nil))))), ?_⟩
    have pz := picSize pr
    refine ⟨.ref o, rfl, .ref a, rfl, o, a, high, wide, ss, rs, rfl, al.al, ha, pr, w60, fun H1 s1 => ?_⟩
    refine ⟨.ref a, rfl, .ref o, rfl, .ref a, rfl, .ref a, rfl, .inr ⟨a, _, rfl, SqT.of (s1 _ _ ha), kn_rows pr, picOk_pic pr, fun p3 H3 s3 n3 h3 => ?_⟩⟩
    rw [pz.1, pz.2] at h3
    have s13 := s1.trans s3
    have al3 := al.same s13
    have ww := pr.w0
    refine ⟨p3, _, 1, .int wide, rfl, rfl, SqT.of h3, rfl, x, rfl, o, high, ss, .int wide, x, rfl, al3, kt_int _, .inr ⟨wide, rfl, ww, w60, ?_⟩⟩
    rcases h with ⟨bad, q⟩ | ⟨ws, gd, q⟩
    · exact .inl ⟨bad.same s13, fun H' s' => q H' (s13.trans s')⟩
    refine .inr ⟨ws, gd.same s13, fun p H4 s4 np hp => ?_⟩
    have s14 := s13.trans s4
    obtain ⟨a2, zs, _, _, _, wk⟩ := gd
    exact ⟨a, p, high, wide, high, wide, rs, _, rfl, s14 _ _ ha, hp, pr, draw_pic al.pr wk pr.h0 pr.h1 pr.w0 pr.w1, fun _ H5 s5 => q H5 (s14.trans s5), fun e => absurd ⟨rfl, rfl⟩ e⟩
end
end Dt
namespace Dt
open PySem PySem.Spec PyProof.Rows L2 L2X
open SX (S)
/-! ### the law's own columns -/
def colR (ss : List Sh) (high : Nat) (ws : List (Nat × Nat)) (c : Nat) : List Nat := (List.range high).map fun r => pix ss ws r c
def colsR (ss : List Sh) (high wide : Nat) (ws : List (Nat × Nat)) : List (List Nat) := (List.range wide).map (colR ss high ws)
def newC (ss : List Sh) (high : Nat) (p : Nat × Nat) (c : Nat) : List Nat := (List.range high).map fun r => (rowAt ss p.2 r).getD (c - p.1) 0
def midC (ss : List Sh) (high wide : Nat) (ws : List (Nat × Nat)) (p : Nat × Nat) (k : Nat) : List (List Nat) := (List.range wide).map fun c => if p.1 ≤ c ∧ c < p.1 + k then newC ss high p c else colR ss high ws c
theorem mid_0 {ss : List Sh} {high wide : Nat} {ws : List (Nat × Nat)} {p : Nat × Nat} : midC ss high wide ws p 0 = colsR ss high wide ws := by
  unfold midC colsR
  refine List.map_congr_left fun c _ => ?_
  rw [if_neg (by omega)]
theorem mid_w {ss : List Sh} {high wide : Nat} {ws : List (Nat × Nat)} {p : Nat × Nat} : midC ss high wide ws p (wdt ss p.2) = colsR ss high wide (ws ++ [p]) := by
  unfold midC colsR
  refine List.map_congr_left fun c _ => ?_
  unfold colR newC
  split
  · rename_i h
    refine List.map_congr_left fun r _ => ?_
    rw [pix_snoc]
    unfold pixS
    rw [if_pos h]
  · rename_i h
    refine List.map_congr_left fun r _ => ?_
    rw [pix_snoc]
    unfold pixS
    rw [if_neg h]
theorem set_range {α : Type} {f : Nat → α} {n j : Nat} {v : α} : ((List.range n).map f).set j v = (List.range n).map fun c => if c = j then v else f c := by
  apply List.ext_getElem?
  intro c
  rw [List.getElem?_set, List.getElem?_map, List.getElem?_map]
  by_cases e : j = c
  · subst e
    rw [if_pos rfl]
    by_cases h : j < n
    · rw [if_pos (by rw [List.length_map, List.length_range]; exact h), List.getElem?_range h]
      show some v = some (if j = j then v else f j)
      rw [if_pos rfl]
    · rw [if_neg (by rw [List.length_map, List.length_range]; exact h), List.getElem?_eq_none (by rw [List.length_range]; omega)]
      rfl
  · rw [if_neg e]
    by_cases h : c < n
    · rw [List.getElem?_range h]
      show some (f c) = some (if c = j then v else f c)
      rw [if_neg (fun z => e z.symm)]
    · rw [List.getElem?_eq_none (by rw [List.length_range]; omega)]
      rfl
theorem mid_s {ss : List Sh} {high wide k : Nat} {ws : List (Nat × Nat)} {p : Nat × Nat} : (midC ss high wide ws p k).set (p.1 + k) (newC ss high p (p.1 + k)) = midC ss high wide ws p (k + 1) := by
  unfold midC
  rw [set_range]
  refine List.map_congr_left fun c _ => ?_
  by_cases e : c = p.1 + k
  · subst e
    rw [if_pos rfl, if_pos (by omega)]
  · rw [if_neg e]
    by_cases h : p.1 ≤ c ∧ c < p.1 + k
    · rw [if_pos h, if_pos (by omega)]
    · rw [if_neg h, if_neg (by omega)]
theorem cols_nil {ss : List Sh} {high wide : Nat} : colsR ss high wide [] = List.replicate wide (List.replicate high 46) := by
  unfold colsR colR
  have e : ∀ (n : Nat) {α : Type} (x : α), (List.range n).map (fun _ => x) = List.replicate n x := fun n α x => by
    rw [List.map_const', List.length_range]
  show (List.range wide).map (fun _ => (List.range high).map fun _ => 46) = _
  rw [e, e]
theorem len_cols {ss : List Sh} {high wide : Nat} {ws : List (Nat × Nat)} : (colsR ss high wide ws).length = wide := by
  unfold colsR
  rw [List.length_map, List.length_range]
theorem len_mid {ss : List Sh} {high wide k : Nat} {ws : List (Nat × Nat)} {p : Nat × Nat} : (midC ss high wide ws p k).length = wide := by
  unfold midC
  rw [List.length_map, List.length_range]
abbrev sLS : Stmt := topS 56
abbrev nLS : List Str := ["shapes", "high", "wide", "way", "found", "at", "number", "picture", "k", "row"]
theorem scLS : FnScope nLS ["shapes", "high", "wide", "way"] (defScope sLS) := ⟨rfl, rfl, rfl, by decide +kernel, rfl, by decide +kernel, by decide +kernel⟩
/-- shapes, and a way over them -/
structure SW (K : PySem.W.Frag) (H : Hp) (l a : Addr) (high wide : Nat) (xs zs : List V) (ss : List Sh) (ws : List (Nat × Nat)) : Prop where
  hl : H l = some (.lst xs)
  S : Shs H xs ss
  pr : ∀ s ∈ ss, PicR high s.w s.rs
  ha : SqT K H a zs
  pl : Plc K H zs ws
  wk : WayOk ss wide ws
  c0 : 1 ≤ wide
  c60 : wide ≤ 60
  h0 : 1 ≤ high
  h60 : high ≤ 60
theorem SW.same {K : PySem.W.Frag} {H H' : Hp} {l a : Addr} {high wide : Nat} {xs zs : List V} {ss : List Sh} {ws : List (Nat × Nat)} (h : SW K H l a high wide xs zs ss ws) (s : Same H H') : SW K H' l a high wide xs zs ss ws :=
  ⟨s _ _ h.hl, h.S.same s, h.pr, sameT s h.ha, h.pl.same s, h.wk, h.c0, h.c60, h.h0, h.h60⟩
def spLS (K : PySem.W.Frag) : Sp := fun vs H Q _ => ∃ (l a : Addr) (high wide : Nat) (xs zs : List V) (ss : List Sh) (ws : List (Nat × Nat)), vs = [.ref l, .int high, .int wide, .ref a] ∧ SW K H l a high wide xs zs ss ws ∧
  ∀ (g : Addr) H', Same H H' → H g = none → H' g = some (.lst ((colsR ss high wide ws).map rv)) → Q (.ref g) H'
abbrev sLD : Stmt := topS 57
abbrev nLD : List Str := ["shapes", "line", "way", "total", "k", "one", "row", "sign"]
theorem scLD : FnScope nLD ["shapes", "line", "way"] (defScope sLD) := ⟨rfl, rfl, rfl, by decide +kernel, rfl, by decide +kernel, by decide +kernel⟩
def spLD (K : PySem.W.Frag) : Sp := fun vs H Q _ => ∃ (l ln a : Addr) (high wide : Nat) (xs zs : List V) (ss : List Sh) (ws : List (Nat × Nat)) (rs : List (List Nat)), vs = [.ref l, .ref ln, .ref a] ∧ SW K H l a high wide xs zs ss ws ∧ H ln = some (.tup (rs.map rv)) ∧ PicR high wide rs ∧
  ∀ H', Same H H' → Q (.int (misP rs (drawR ss high wide ws))) H'
section
variable {P : Program} {w : World} {K : PySem.W.Frag} {mg : Str → Option Value} {base : Heap}
theorem ok_ls {f : Addr} {fd : FuncData} {k : Nat} (F : Fun K "_law_set" "_law_set" sLS f fd) (T : Tx mg) : FnOk P w K mg base CX0 (k + 1) f fd ["shapes", "high", "wide", "way"] (spLS K) := by
  refine F.ok scLS (fun vs H Q E h => ?_) (fun cdv A outer s H vs Q E hr h => ?_)
  · obtain ⟨l, a, _, _, _, _, _, _, rfl, _⟩ := h
    rfl
  · obtain ⟨l, a, high, wide, xs, zs, ss, ws, rfl, B, q⟩ := h
    have nd := scLS.nd
    refine ⟨_, pss_cons (ps_set (i := 4) nd rfl (.inl rfl) (pe_op op_rep (pe_lst (pa_cons (pe_op op_mul_str pe_str (pv 1)) pa_nil)) (pv 2)))
      (pss_cons (ps_for PassesOwn.never rfl (pi_tup (pv 3)) (pg_tup rfl (pgs_cons (pg_name (i := 5) nd rfl (Or.inl rfl)) (pgs_cons (pg_name (i := 6) nd rfl (Or.inl rfl)) pgs_nil)))
        (pss_cons (ps_set (i := 7) nd rfl (.inl rfl) (pe_ix (r := rIxT K) ix_tup (pe_ix (r := rIxL K) ix_list (pv 0) (pv 6) (fun _ _ => rfl)) pe_int (fun _ _ => rfl)))
        (pss_one (ps_for PassesOwn.never rfl (pi_range1 rfl T.range (pa_cons (pe_callB call_len_str (by rfl) T.len PySem.boot_len (pa_cons (pe_ix (r := rIxT K) ix_tup (pv 7) pe_int (fun _ _ => rfl)) pa_nil)) pa_nil)) (pg_name (i := 8) nd rfl (.inr rfl))
          (pss_one (ps_asg (pe_joinK (K := K) rfl pe_str (pe_lc (own := [("row", 9)]) (g := gName 9) (tt := tYes) rfl nd (pi_tup (pv 7)) (blkOk_by (N := nLS) (sc := defScope sLS) (by decide +kernel)) (fun _ _ _ _ _ => pg_name (i := 9) nd rfl (Or.inl rfl)) (fun _ _ _ _ _ => pts_nil) (fun _ _ _ _ _ => pe_ix ix_str (pv 9) (pv 8) (fun _ _ => rfl)))) (pg_sub (pv 4) (pe_op op_add (pv 5) (pv 8)) set_list)))))))
      (pss_one (ps_ret (pv 4)))), ?_⟩
    have h0 := B.h0
    have h60 := B.h60
    have c0 := B.c0
    have c60 := B.c60
    have lz := B.pl.len
    have go := mul_ok 46 high h0 (by omega)
    have gm := mul_sign 46 high h0
    refine ⟨.int high, rfl, ".", (high : Int), rfl, rfl, by rw [s_dot]; exact go, by show 1 ≤ sizeLine; decide, fun l0 hl0 => ⟨.int wide, rfl, l0, wide, [V.str (Txt.mul "." (high : Int))], rfl, rfl, upd_same, by omega, by omega, ?_, fun g hg => ?_⟩⟩
    · rw [Int.toNat_natCast]
      show 1 * wide ≤ sizeLine
      have := small1000 (show wide ≤ 1000 by omega)
      omega
    have erep : (List.replicate (wide : Int).toNat [V.str (Txt.mul "." (high : Int))]).flatten = (colsR ss high wide []).map rv := by
      rw [Int.toNat_natCast, cols_nil, List.map_replicate, s_dot, gm]
      have flat : ∀ n : Nat, (List.replicate n [V.str (S (List.replicate high 46))]).flatten = List.replicate n (rv (List.replicate high 46)) := by
        intro n
        induction n with
        | zero => rfl
        | succ n ih =>
          rw [List.replicate_succ, List.flatten_cons, ih, List.replicate_succ]
          rfl
      exact flat wide
    have s1 := (same_upd (o := .lst [V.str (Txt.mul "." (high : Int))]) hl0).trans (same_upd (o := .lst (List.replicate (wide : Int).toNat [V.str (Txt.mul "." (high : Int))]).flatten) hg)
    have hg1 : (upd (upd H l0 (.lst [V.str (Txt.mul "." (high : Int))])) g (.lst (List.replicate (wide : Int).toNat [V.str (Txt.mul "." (high : Int))]).flatten)) g = some (.lst ((colsR ss high wide []).map rv)) := by rw [upd_same, erep]
    have ng : H g = none := (same_upd (o := .lst [V.str (Txt.mul "." (high : Int))]) hl0).free hg
    generalize upd (upd H l0 (.lst [V.str (Txt.mul "." (high : Int))])) g (.lst (List.replicate (wide : Int).toNat [V.str (Txt.mul "." (high : Int))]).flatten) = H1 at s1 hg1 ⊢
    refine ⟨.ref a, rfl, a, rfl, ⟨_, sameT s1 B.ha⟩, for_tup (K := K) (a := a) (xs := zs) (fun i σ H2 => ∃ y5 y6 y7 y8, σ = [some (.ref l), some (.int high), some (.int wide), some (.ref a), some (.ref g), y5, y6, y7, y8, none] ∧ Same H H2 ∧ H2 g = some (.lst ((colsR ss high wide (ws.take i)).map rv))) ⟨none, none, none, none, rfl, s1, hg1⟩ (fun i σ H2 _ z => by
      obtain ⟨_, _, _, _, _, sm, _⟩ := z
      exact sameT sm B.ha) ?_ ?_⟩
    · rintro i x σ H2 hx ⟨y5, y6, y7, y8, rfl, sm, hg2⟩
      have hi : i < ws.length := by
        rw [← lz]
        exact (List.getElem?_eq_some_iff.mp hx).1
      have ep : ws[i]? = some ws[i] := List.getElem?_eq_getElem hi
      generalize ws[i] = p at ep
      obtain ⟨t, rfl, hp⟩ := B.pl.at_ i x p hx ep
      obtain ⟨w1, w2, w3⟩ := B.wk i p ep
      have es : ss[p.2]? = some ss[p.2] := List.getElem?_eq_getElem w1
      have prp := B.pr _ (List.getElem_mem w1)
      have ew := wdt_at es
      have ra := fun r => rowAt_at (r := r) es
      generalize ss[p.2] = s' at es prp ew ra
      have lxs := B.S.len
      have ex : xs[p.2]? = some (xs[p.2]'(by omega)) := List.getElem?_eq_getElem (by omega)
      obtain ⟨ts, pp, ets, hts, hpp⟩ := B.S.at_ p.2 _ s' ex es
      rw [ets] at ex
      have ww1 := prp.w1
      have er : s'.rs[0]? = some (s'.rs[0]'(by rw [prp.len]; omega)) := List.getElem?_eq_getElem (by rw [prp.len]; omega)
      have lr := (prp.row _ (List.mem_of_getElem? er)).len
      generalize s'.rs[0]'(by rw [prp.len]; omega) = r0 at er lr
      have lzz : (S r0).length ≤ sizeLine := by
        rw [SX.S_len, lr]
        exact Nat.le_of_lt (small1000 (by omega))
      have lS : (S r0).length = s'.w := by rw [SX.S_len, lr]
      refine ⟨t, _, rfl, sameT sm hp, rfl, _, _, rfl, _, _, rfl, rfl, ?_⟩
      refine ⟨.ref l, rfl, .int p.2, rfl, l, _, (p.2 : Int), .ref ts, rfl, rfl, SqL.of (sm _ _ B.hl), atI_nat ex, ts, _, 1, .ref pp, rfl, rfl, SqT.of (sm _ _ hts), rfl, ?_⟩
      refine ⟨.ref pp, rfl, pp, _, 0, rv r0, rfl, rfl, SqT.of (sm _ _ hpp), atI_nat (j := 0) (by rw [List.getElem?_map, er]; rfl), S r0, rfl, lzz, s'.w, by rw [lS], by omega, by omega, ?_⟩
      rw [← mid_0 (p := p)] at hg2
      refine for_range (lo := 0) (n := s'.w) (fun j σ H3 => ∃ y8, σ = [some (.ref l), some (.int high), some (.int wide), some (.ref a), some (.ref g), some (.int p.1), some (.int p.2), some (.ref pp), y8, none] ∧ Same H H3 ∧ H3 g = some (.lst ((midC ss high wide (ws.take i) p j).map rv))) ⟨y8, rfl, sm, hg2⟩ ?_ ?_
      · rintro j σ H3 hj ⟨y8, rfl, sm3, hg3⟩
        have e0 : (0 + (j : Int)) = (j : Int) := Int.zero_add _
        rw [e0]
        have hpp3 := sm3 _ _ hpp
        refine ⟨⟨"", rfl⟩, .ref pp, rfl, pp, rfl, ⟨_, SqT.of hpp3⟩, fun D hD => lc_tup (K := K) (a := pp) (xs := s'.rs.map rv) (fun u H4 => Same H3 H4 ∧ H4 D = some (.lst (((s'.rs.take u).map fun l => l.getD j 0).map ch))) ⟨same_upd hD, upd_same⟩ (fun u H4 _ z => SqT.of (z.1 _ _ hpp3)) ?_ ?_⟩
        · rintro u x H4 hx ⟨sm4, h4⟩
          obtain ⟨lr1, hlr, rfl⟩ := map_at2 hx
          have hu := (List.getElem?_eq_some_iff.mp hlr).1
          rw [prp.len] at hu
          have l1 := (prp.row lr1 (List.mem_of_getElem? hlr)).len
          have ec : lr1[j]? = some (lr1.getD j 0) := by
            rw [List.getD_eq_getElem?_getD, List.getElem?_eq_getElem (by omega)]
            rfl
          refine ⟨rfl, rv lr1, rfl, .int j, rfl, S lr1, (j : Int), lr1.getD j 0, rfl, rfl, ?_, by rw [show (S lr1).cps.toList = lr1 by simp [S]]; exact atI_nat ec, _, h4, ?_, same_over sm4 hD, ?_⟩
          · rw [SX.S_len]
            exact Nat.le_of_lt (small1000 (by omega))
          · rw [List.length_map, List.length_map, List.length_take]
            exact small1000 (by omega)
          · rw [upd_same, take_snoc hlr, List.map_append, List.map_append]
            rfl
        · rintro H4 ⟨sm4, h4⟩
          rw [List.length_map, List.take_length] at h4
          have enew : (s'.rs.map fun l => l.getD j 0) = newC ss high p (p.1 + j) := by
            unfold newC
            rw [show p.1 + j - p.1 = j by omega]
            apply List.ext_getElem?
            intro r
            by_cases hr1 : r < high
            · rw [List.getElem?_map, List.getElem?_map, List.getElem?_range hr1, List.getElem?_eq_getElem (by rw [prp.len]; exact hr1)]
              show some _ = some ((rowAt ss p.2 r).getD j 0)
              rw [ra r, List.getD_eq_getElem?_getD (l := s'.rs), List.getElem?_eq_getElem (by rw [prp.len]; exact hr1)]
              rfl
            · rw [List.getElem?_eq_none (by rw [List.length_map, prp.len]; omega), List.getElem?_eq_none (by rw [List.length_map, List.length_range]; omega)]
          rw [enew] at h4
          refine ⟨"", D, (newC ss high p (p.1 + j)).map fun c => (⟨#[c]⟩ : Str), rfl, rfl, .inl (SqL.of (h4.trans (by rw [List.map_map]; rfl))), ?_, ?_⟩
          · rw [lens_rows]
            show (newC ss high p (p.1 + j)).length + _ * 0 ≤ 16777216
            unfold newC
            rw [List.length_map, List.length_range]
            omega
          · rw [join_row]
            have e2 : ((p.1 : Int) + (j : Int)) = ((p.1 + j : Nat) : Int) := by omega
            refine ⟨.ref g, rfl, .int p.1, rfl, .int j, rfl, _, _, rfl, rfl, g, _, ((p.1 + j : Nat) : Int), p.1 + j, rfl, congrArg V.int e2, sm4 _ _ hg3, ixN_at (by rw [List.length_map, len_mid]; omega), some (.int j), rfl, same_over (sm3.trans sm4) ng, ?_⟩
            rw [upd_same, ← mid_s, List.map_set]
            rfl
      · rintro σ H3 ⟨y8, rfl, sm3, hg3⟩
        rw [← ew, mid_w, ← take_snoc ep] at hg3
        exact ⟨_, _, _, _, rfl, sm3, hg3⟩
    · rintro σ H2 ⟨y5, y6, y7, y8, rfl, sm, hg2⟩
      rw [lz, List.take_length] at hg2
      exact ⟨.ref g, rfl, q g H2 sm ng hg2⟩
end
end Dt
namespace Dt
open PySem PySem.Spec PyProof.Rows L2 L2X
open SX (S)
def colD (rs : List (List Nat)) (ss : List Sh) (high : Nat) (ws : List (Nat × Nat)) (c : Nat) : Nat := ((List.range high).map fun r => dif rs (pix ss ws) r c).sum
theorem sum_succ (f : Nat → Nat) (k : Nat) : ((List.range (k + 1)).map f).sum = ((List.range k).map f).sum + f k := by
  rw [List.range_succ, List.map_append, List.sum_append]
  simp
theorem colD_le {rs : List (List Nat)} {ss : List Sh} {high : Nat} {ws : List (Nat × Nat)} {c : Nat} : colD rs ss high ws c ≤ high := by
  unfold colD
  have key : ∀ l : List Nat, (l.map fun r => dif rs (pix ss ws) r c).sum ≤ l.length := by
    intro l
    induction l with
    | nil => exact Nat.le_refl 0
    | cons x r ih =>
      rw [List.map_cons, List.sum_cons, List.length_cons]
      have : dif rs (pix ss ws) x c ≤ 1 := by
        unfold dif
        split <;> omega
      omega
  have := key (List.range high)
  rw [List.length_range] at this
  exact this
section
variable {P : Program} {w : World} {K : PySem.W.Frag} {mg : Str → Option Value} {base : Heap}
theorem ok_ld {f : Addr} {fd : FuncData} {k : Nat} (F : Fun K "_law_dots" "_law_dots" sLD f fd) (T : Tx mg) (en : mg "enumerate" = none) (hz : mg "zip" = none) (GS : Pm P w K mg base CX0 (k + 1) "_law_set" ["shapes", "high", "wide", "way"] (spLS K)) : FnOk P w K mg base CX0 (k + 2) f fd ["shapes", "line", "way"] (spLD K) := by
  obtain ⟨fS, fdS, GS, mS, kS, bS⟩ := GS.ex
  refine F.ok scLD (fun vs H Q E h => ?_) (fun cdv A outer s H vs Q E hr h => ?_)
  · obtain ⟨l, ln, a, _, _, _, _, _, _, _, rfl, _⟩ := h
    rfl
  · obtain ⟨l, ln, a, high, wide, xs, zs, ss, ws, rs, rfl, B, hln, pr, q⟩ := h
    have nd := scLD.nd
    refine ⟨_, pss_cons (ps_set (i := 3) nd rfl (.inl rfl) pe_int)
      (pss_cons (ps_for PassesOwn.never rfl (pi_enumG (by rfl) en (pa_cons (pe_call GS hr (by rfl) mS kS bS .nil pass0 (pa_cons (pv 0) (pa_cons (pe_callB call_len_seq (by rfl) T.len PySem.boot_len (pa_cons (pv 1) pa_nil)) (pa_cons (pe_callB call_len_str (by rfl) T.len PySem.boot_len (pa_cons (pe_ix (r := rIxT K) ix_tup (pv 1) pe_int (fun _ _ => rfl)) pa_nil)) (pa_cons (pv 2) pa_nil))))) pa_nil)) (pg_tup rfl (pgs_cons (pg_name (i := 4) nd rfl (Or.inr rfl)) (pgs_cons (pg_name (i := 5) nd rfl (Or.inl rfl)) pgs_nil)))
        (pss_one (ps_set (i := 3) nd rfl (.inl rfl) (pe_op op_add (pv 3) (pe_callB call_len_seq (by rfl) T.len PySem.boot_len (pa_cons (pe_lc (own := [("row", 6), ("sign", 7)]) (g := gTup K 2 (gCons (gName 6) (gCons (gName 7) gNil))) rfl nd (pi_zipG (by rfl) hz (pa_cons (pv 1) (pa_cons (pv 5) pa_nil))) (blkOk_by (N := nLD) (sc := defScope sLD) (by decide +kernel))
            (fun _ _ _ _ _ => pg_tup rfl (pgs_cons (pg_name (i := 6) nd rfl (Or.inl rfl)) (pgs_cons (pg_name (i := 7) nd rfl (Or.inl rfl)) pgs_nil))) (fun _ _ _ _ _ => pts_one (pt_cmpR op_ne (pe_ix ix_str (pv 6) (pv 4) (fun _ _ => rfl)) (pv 7) (nomark _))) (fun _ _ _ _ _ => pv 6)) pa_nil))))))
      (pss_one (ps_ret (pv 3)))), ?_⟩
    have h0 := B.h0
    have h60 := B.h60
    have c0 := B.c0
    have c60 := B.c60
    have lh := pr.len
    have er : rs[0]? = some (rs[0]'(by omega)) := List.getElem?_eq_getElem (by omega)
    have lr := (pr.row _ (List.mem_of_getElem? er)).len
    generalize rs[0]'(by omega) = r0 at er lr
    have lzz : (S r0).length ≤ sizeLine := by
      rw [SX.S_len, lr]
      exact Nat.le_of_lt (small1000 (by omega))
    have lS : (S r0).length = wide := by rw [SX.S_len, lr]
    refine ⟨.ref l, rfl, .ref ln, rfl, ln, _, rfl, .inr (SqT.of hln), .ref ln, rfl, ln, _, 0, rv r0, rfl, rfl, SqT.of hln, atI_nat (j := 0) (by rw [List.getElem?_map, er]; rfl), S r0, rfl, lzz, .ref a, rfl, l, a, high, wide, xs, zs, ss, ws, by rw [lS, List.length_map, lh]; rfl, B, fun g H1 s1 ng hg => ?_⟩
    refine ⟨.lst g, _, rfl, SqL.of hg, for_enumG (K := K) (A := .lst g) (xs := (colsR ss high wide ws).map rv) (fun i σ H2 => ∃ y4 y5, σ = [some (.ref l), some (.ref ln), some (.ref a), some (.int (((List.range i).map (colD rs ss high ws)).sum : Nat)), y4, y5, none, none] ∧ Same H1 H2) ⟨none, none, rfl, Same.refl H1⟩ (fun i σ H2 _ z => by
      obtain ⟨_, _, _, sm⟩ := z
      exact SqL.of (sm _ _ hg)) ?_ ?_⟩
    · rintro i x σ H2 T' hx ⟨y4, y5, rfl, sm⟩ hT
      obtain ⟨col, hcol, rfl⟩ := map_at2 hx
      have hi : i < wide := by
        have := (List.getElem?_eq_some_iff.mp hcol).1
        rw [len_cols] at this
        exact this
      have ecol : col = colR ss high ws i := by
        unfold colsR at hcol
        rw [List.getElem?_map, List.getElem?_range hi] at hcol
        exact (Option.some.inj hcol).symm
      subst ecol
      have sT := same_upd (o := .tup [V.int (i : Nat), rv (colR ss high ws i)]) hT
      refine ⟨T', _, rfl, SqT.of upd_same, rfl, _, _, rfl, _, _, rfl, rfl, ?_⟩
      generalize upd H2 T' (.tup [V.int (i : Nat), rv (colR ss high ws i)]) = H3 at sT
      have s13 := sm.trans sT
      have s03 := s1.trans s13
      have hln3 := s03 _ _ hln
      have lcol : (colR ss high ws i).length = high := by
        unfold colR
        rw [List.length_map, List.length_range]
      refine ⟨.int (((List.range i).map (colD rs ss high ws)).sum : Nat), rfl, .ref ln, rfl, rv (colR ss high ws i), rfl, .tup ln, .txt (S (colR ss high ws i)), rs.map rv, chars (S (colR ss high ws i)), rfl, SqT.of hln3, rfl, fun D hD => lc_zipG (K := K) (A := .tup ln) (B := .txt (S (colR ss high ws i))) (xs := rs.map rv) (ys := chars (S (colR ss high ws i))) (by rw [chars_S, List.length_map, List.length_map, lh, lcol]) (fun u H4 => Same H3 H4 ∧ H4 D = some (.lst (((((rs.zip (colR ss high ws i)).take u).filter fun q => decide (q.1.getD i 0 ≠ q.2)).map fun q => rv q.1)))) ⟨same_upd hD, upd_same⟩ (fun u H4 _ z => ⟨SqT.of (z.1 _ _ hln3), rfl⟩) ?_ ?_⟩
      · rintro u x y H4 T2 hx hy ⟨sm4, h4⟩ hT2
        obtain ⟨l1, hl1, rfl⟩ := map_at2 hx
        rw [chars_S] at hy
        obtain ⟨c, hc, rfl⟩ := map_at2 hy
        have hu := (List.getElem?_eq_some_iff.mp hl1).1
        have ll := (pr.row l1 (List.mem_of_getElem? hl1)).len
        have hz' : (rs.zip (colR ss high ws i))[u]? = some (l1, c) := List.getElem?_zip_eq_some.mpr ⟨hl1, hc⟩
        have sT2 := same_upd (o := .tup [rv l1, V.str ⟨#[c]⟩]) hT2
        have ec : l1[i]? = some (l1.getD i 0) := by
          rw [List.getD_eq_getElem?_getD, List.getElem?_eq_getElem (by omega)]
          rfl
        refine ⟨T2, _, rfl, SqT.of upd_same, rfl, _, _, rfl, _, _, rfl, rfl, rfl, rv l1, rfl, .int i, rfl, S l1, (i : Int), l1.getD i 0, rfl, rfl, ?_, by rw [show (S l1).cps.toList = l1 by simp [S]]; exact atI_nat ec, .str ⟨#[c]⟩, rfl, rfl, _, rfl, ?_⟩
        · rw [SX.S_len]
          exact Nat.le_of_lt (small1000 (by omega))
        have e1 : (!decide (V.str ⟨#[l1.getD i 0]⟩ = V.str ⟨#[c]⟩)) = decide (l1.getD i 0 ≠ c) := by
          rw [ch_dec]
          by_cases e : l1.getD i 0 = c
          · rw [decide_eq_true e, decide_eq_false (fun z => z e)]
            rfl
          · rw [decide_eq_false e, decide_eq_true e]
            rfl
        have hsz : ((((rs.zip (colR ss high ws i)).take u).filter fun q => decide (q.1.getD i 0 ≠ q.2)).map fun q => rv q.1).length < sizeLine := by
          rw [List.length_map]
          have a1 := List.length_filter_le (fun q : List Nat × Nat => decide (q.1.getD i 0 ≠ q.2)) ((rs.zip (colR ss high ws i)).take u)
          rw [List.length_take] at a1
          exact small1000 (by omega)
        show if (!decide (V.str ⟨#[l1.getD i 0]⟩ = V.str ⟨#[c]⟩)) = true then _ else _
        rw [e1]
        by_cases e : l1.getD i 0 = c
        · refine iteE (decide_eq_false (fun z => z e)) ⟨sm4.trans sT2, ?_⟩
          rw [take_snoc hz', List.filter_append, List.filter_cons_of_neg (by simpa using e), List.filter_nil, List.append_nil]
          exact sT2 _ _ h4
        · refine iteY (decide_eq_true e) ⟨rv l1, rfl, _, sT2 _ _ h4, hsz, same_over (sm4.trans sT2) hD, ?_⟩
          rw [upd_same, take_snoc hz', List.filter_append, List.filter_cons_of_pos (by simpa using e), List.filter_nil, List.map_append]
          rfl
      · rintro H4 ⟨sm4, h4⟩
        have et : (rs.zip (colR ss high ws i)).take (rs.map rv).length = rs.zip (colR ss high ws i) := List.take_of_length_le (by rw [List.length_zip, List.length_map]; omega)
        rw [et] at h4
        have ed : ((rs.zip (colR ss high ws i)).filter fun q => decide (q.1.getD i 0 ≠ q.2)).length = colD rs ss high ws i := col_dif (f := pix ss ws) pr.rows
        refine ⟨D, _, rfl, .inl (SqL.of h4), (((List.range i).map (colD rs ss high ws)).sum : Nat), _, rfl, rfl, some (.int (i : Nat)), some (rv (colR ss high ws i)), ?_, s13.trans sm4⟩
        rw [List.length_map, ed, sum_succ, Int.natCast_add]
        rfl
    · rintro σ H2 ⟨y4, y5, rfl, sm⟩
      rw [List.length_map, len_cols]
      refine ⟨_, rfl, ?_⟩
      have e := misP_pix (f := pix ss ws) pr.rows
      have q2 := q H2 (s1.trans sm)
      unfold drawR at q2
      rw [e] at q2
      exact q2
end
end Dt
namespace L2X
open PySem PySem.Spec PyProof.Rows L2
theorem call_isiQ {X : Cx} {K : PySem.W.Frag} (hK : X.K = K) : CallR X (.builtin "isinstance") (rIsi K) := by
  subst hK
  exact call_isi
end L2X
namespace Dt
open PySem PySem.Spec PyProof.Rows L2 L2X
open SX (S)
/-! ### what stays but for a list and the tables -/
def Kp (d : Addr) (H H' : Hp) : Prop := ∀ b o, H b = some o → b ≠ d → (∀ ps, o ≠ .tbl ps) → H' b = some o
theorem Kp.same {d : Addr} {H H' : Hp} (s : Same H H') : Kp d H H' := fun b o e _ _ => s b o e
theorem Kp.of_do {d : Addr} {H H' : Hp} (s : Do d H H') : Kp d H H' := fun b o e n _ => s b o e n
theorem Kp.trans {d : Addr} {H H1 H2 : Hp} (a : Kp d H H1) (b : Kp d H1 H2) : Kp d H H2 := fun x o e h n => b x o (a x o e h n) h n
theorem Kp.tup {d a : Addr} {H H' : Hp} {n : Nat} {xs : List V} (k : Kp d H H') (D : Du H d n) (h : H a = some (.tup xs)) : H' a = some (.tup xs) := by
  obtain ⟨_, _, _, hd, _⟩ := D
  exact k _ _ h (ne_of h hd (by intro z; cases z)) fun _ z => nomatch z
theorem Kp.lst {d a : Addr} {H H' : Hp} {xs : List V} (k : Kp d H H') (n : a ≠ d) (h : H a = some (.lst xs)) : H' a = some (.lst xs) := k _ _ h n fun _ z => nomatch z
theorem Kp.sqT {K : PySem.W.Frag} {H H' : Hp} {d a : Addr} {n : Nat} {xs : List V} (s : Kp d H H') (D : Du H d n) (h : SqT K H a xs) : SqT K H' a xs := by
  obtain ⟨a1, a2, a3, hd, _⟩ := D
  rcases h with (h | ⟨o, h⟩) | h
  · exact SqT.of (s _ _ h (ne_of h hd (by intro z; cases z)) fun _ z => nomatch z)
  · exact .inl (.inr ⟨o, s _ _ h (ne_of h hd (by intro z; cases z)) fun _ z => nomatch z⟩)
  · exact .inr h
theorem Kp.plc {K : PySem.W.Frag} {H H' : Hp} {d : Addr} {n : Nat} {xs : List V} {ps : List (Nat × Nat)} (k : Kp d H H') (D : Du H d n) (h : Plc K H xs ps) : Plc K H' xs ps :=
  ⟨h.len, fun i x p a b => let ⟨t, e, z⟩ := h.at_ i x p a b; ⟨t, e, k.sqT D z⟩⟩
/-! ### odd things -/
/-- what is no tuple -/
def Smp (d : Addr) (H : Hp) (x : V) : Prop := x = .non ∨ (∃ b, x = .bl b) ∨ (∃ i, x = .int i) ∨ x = .str "0" ∨ ∃ t us, x = .ref t ∧ t ≠ d ∧ H t = some (.lst us)
theorem Smp.kp {d : Addr} {H H' : Hp} {x : V} (h : Smp d H x) (k : Kp d H H') : Smp d H' x := by
  rcases h with h | h | h | h | ⟨t, us, e, n, h⟩
  · exact .inl h
  · exact .inr (.inl h)
  · exact .inr (.inr (.inl h))
  · exact .inr (.inr (.inr (.inl h)))
  · exact .inr (.inr (.inr (.inr ⟨t, us, e, n, k.lst n h⟩)))
theorem Smp.ty {K : PySem.W.Frag} {d : Addr} {H : Hp} {x : V} (h : Smp d H x) : ∃ T, TyB K H x T ∧ tyOk T = true ∧ T ≠ "tuple" := by
  rcases h with rfl | ⟨b, rfl⟩ | ⟨i, rfl⟩ | rfl | ⟨t, us, rfl, n, h⟩
  · exact ⟨_, .non, rfl, by decide⟩
  · exact ⟨_, .bl b, rfl, by decide⟩
  · exact ⟨_, .int i, rfl, by decide⟩
  · exact ⟨_, .str _, rfl, by decide⟩
  · exact ⟨_, .lst (SqL.of h), rfl, by decide⟩
/-- what stands within a window -/
def OZ (d : Addr) (H : Hp) (z : V) : Prop := z = .non ∨ (∃ b, z = .bl b) ∨ (∃ i, z = .int i) ∨ z = .str "0" ∨ (∃ t, z = .ref t ∧ H t = some (.tup [.int 0])) ∨ ∃ t, z = .ref t ∧ t ≠ d ∧ H t = some (.lst [.int 0, .int 0])
theorem OZ.kp {d : Addr} {H H' : Hp} {n : Nat} {x : V} (h : OZ d H x) (k : Kp d H H') (D : Du H d n) : OZ d H' x := by
  rcases h with h | h | h | h | ⟨t, e, h⟩ | ⟨t, e, n, h⟩
  · exact .inl h
  · exact .inr (.inl h)
  · exact .inr (.inr (.inl h))
  · exact .inr (.inr (.inr (.inl h)))
  · exact .inr (.inr (.inr (.inr (.inl ⟨t, e, k.tup D h⟩))))
  · exact .inr (.inr (.inr (.inr (.inr ⟨t, e, n, k.lst n h⟩))))
theorem OZ.kt {K : PySem.W.Frag} {d : Addr} {H : Hp} {x : V} (h : OZ d H x) : Kt K H x := by
  rcases h with rfl | ⟨b, rfl⟩ | ⟨i, rfl⟩ | rfl | ⟨t, rfl, h⟩ | ⟨t, rfl, n, h⟩
  · exact ⟨_, .non, rfl⟩
  · exact kt_bl b
  · exact kt_int i
  · exact ⟨_, .str _, rfl⟩
  · exact ⟨_, .tup (SqT.of h), rfl⟩
  · exact ⟨_, .lst (SqL.of h), rfl⟩
theorem OZ.dp {K : PySem.W.Frag} {d : Addr} {H : Hp} {x : V} (h : OZ d H x) : ∃ dt, Dp K H x dt ∧ dt.canLay0 = true ∧ dt.depth ≤ 3 := by
  rcases h with rfl | ⟨b, rfl⟩ | ⟨i, rfl⟩ | rfl | ⟨t, rfl, h⟩ | ⟨t, rfl, n, h⟩
  · exact ⟨.none, .non, by simp [PyData.canLay0], by simp [PyData.depth]⟩
  · exact ⟨.bool b, .bl b, by simp [PyData.canLay0], by simp [PyData.depth]⟩
  · exact ⟨.int i, .int i, by simp [PyData.canLay0], by simp [PyData.depth]⟩
  · exact ⟨.str "0", .str _, by decide +kernel, by simp [PyData.depth]⟩
  · exact ⟨.tuple [.int 0], .tup (SqT.of h) (.cons (.int 0) .nil), by simp [PyData.canLay0, PyData.canLayAll0], by simp [PyData.depth, PyData.depthAll]⟩
  · exact ⟨.list [.int 0, .int 0], .lst (SqL.of h) (.cons (.int 0) (.cons (.int 0) .nil)), by simp [PyData.canLay0, PyData.canLayAll0], by simp [PyData.depth, PyData.depthAll]⟩
/-- what stands in the place of a window -/
def WK (K : PySem.W.Frag) (d : Addr) (H : Hp) (y : V) : Prop := Smp d H y ∨ ∃ t zs, y = .ref t ∧ SqT K H t zs ∧ ∀ z ∈ zs, OZ d H z
theorem WK.kp {K : PySem.W.Frag} {d : Addr} {H H' : Hp} {n : Nat} {x : V} (h : WK K d H x) (k : Kp d H H') (D : Du H d n) : WK K d H' x := by
  rcases h with h | ⟨t, zs, e, h, hz⟩
  · exact .inl (h.kp k)
  · exact .inr ⟨t, zs, e, k.sqT D h, fun z m => (hz z m).kp k D⟩
/-- what stands in the place of a reading -/
def RdK (K : PySem.W.Frag) (d : Addr) (H : Hp) (x : V) : Prop := Smp d H x ∨ ∃ a ys, x = .ref a ∧ SqT K H a ys ∧ ys.length ≤ 200 ∧ ∀ y ∈ ys, WK K d H y
theorem RdK.kp {K : PySem.W.Frag} {d : Addr} {H H' : Hp} {n : Nat} {x : V} (h : RdK K d H x) (k : Kp d H H') (D : Du H d n) : RdK K d H' x := by
  rcases h with h | ⟨t, zs, e, h, l, hz⟩
  · exact .inl (h.kp k)
  · exact .inr ⟨t, zs, e, k.sqT D h, l, fun z m => (hz z m).kp k D⟩
/-- a bad window, told so that it can be asked for what it is -/
def BadY (K : PySem.W.Frag) (d : Addr) (H : Hp) (ss : List Sh) (e : Nat) (cols : Int) (y : V) : Prop := Smp d H y ∨ (∃ t zs, y = .ref t ∧ SqT K H t zs ∧ zs.length ≠ 2) ∨
  ∃ t x1 x2, y = .ref t ∧ SqT K H t [x1, x2] ∧ OZ d H x1 ∧ OZ d H x2 ∧ winB ss e cols x1 x2 = false
theorem BadY.win {K : PySem.W.Frag} {d : Addr} {H : Hp} {ss : List Sh} {e : Nat} {cols : Int} {y : V} (h : BadY K d H ss e cols y) : WinQ K H ss e cols y false := by
  rcases h with h | ⟨t, zs, q, ht, n⟩ | ⟨t, x1, x2, q, ht, o1, o2, w⟩
  · obtain ⟨T, a, b, c⟩ := h.ty (K := K)
    exact .inl ⟨T, a, b, c, rfl⟩
  · exact .inr (.inl ⟨t, zs, q, ht, n, rfl⟩)
  · exact .inr (.inr ⟨t, x1, x2, q, ht, o1.kt, o2.kt, w.symm⟩)
def BadK (K : PySem.W.Frag) (d : Addr) (H : Hp) (ss : List Sh) (cols : Nat) (x : V) : Prop := Smp d H x ∨
  ∃ (a : Addr) (xs : List V) (ws : List (Nat × Nat)) (y : V), x = .ref a ∧ SqT K H a xs ∧ xs.length ≤ 200 ∧ Plc K H (xs.take ws.length) ws ∧ WayOk ss cols ws ∧ xs[ws.length]? = some y ∧ BadY K d H ss (edge ss ws ws.length) cols y
theorem BadK.bad {K : PySem.W.Frag} {d : Addr} {H : Hp} {ss : List Sh} {cols : Nat} {x : V} (h : BadK K d H ss cols x) : BadR K H ss cols x := by
  rcases h with h | ⟨a, xs, ws, y, q, ht, _, pl, wk, hy, b⟩
  · obtain ⟨T, a, b, c⟩ := h.ty (K := K)
    exact .inl ⟨T, a, b, c⟩
  · exact .inr ⟨a, xs, ws, y, q, ht, pl, wk, hy, b.win⟩
theorem plc_snoc {K : PySem.W.Frag} {H : Hp} {xs : List V} {ps : List (Nat × Nat)} {t : Addr} {p : Nat × Nat} (h : Plc K H xs ps) (ht : SqT K H t [.int p.1, .int p.2]) : Plc K H (xs ++ [.ref t]) (ps ++ [p]) :=
  h.app ⟨rfl, fun i x pp hx hpp => by
    cases i with
    | zero =>
      cases hx
      cases hpp
      exact ⟨t, rfl, ht⟩
    | succ i => exact nomatch hx⟩
/-- each is a reading or none -/
theorem rd_cases {K : PySem.W.Frag} {d : Addr} {H : Hp} {ss : List Sh} {cols : Nat} {x : V} (hss : 0 < ss.length) (h : RdK K d H x) : (∃ ws, GoodR K H ss cols x ws) ∨ BadK K d H ss cols x := by
  rcases h with h | ⟨a, ys, rfl, ha, l, hy⟩
  · exact .inr (.inl h)
  have key : ∀ k, k ≤ ys.length → (∃ ws, ws.length = k ∧ Plc K H (ys.take k) ws ∧ WayOk ss cols ws) ∨ BadK K d H ss cols (.ref a) := by
    intro k
    induction k with
    | zero => intro _; exact .inl ⟨[], rfl, by rw [List.take_zero]; exact ⟨rfl, fun i x p h => nomatch h⟩, WayOk.nil⟩
    | succ k ih =>
      intro hk
      rcases ih (by omega) with ⟨ws, lw, pl, wk⟩ | b
      · have ey : ys[k]? = some ys[k] := List.getElem?_eq_getElem (by omega)
        have hw := hy _ (List.getElem_mem (show k < ys.length by omega))
        generalize ys[k] = y at ey hw
        have bad : BadY K d H ss (edge ss ws ws.length) cols y → (∃ ws, ws.length = k + 1 ∧ Plc K H (ys.take (k + 1)) ws ∧ WayOk ss cols ws) ∨ BadK K d H ss cols (.ref a) := fun b =>
          .inr (.inr ⟨a, ys, ws, y, rfl, ha, l, by rw [lw]; exact pl, wk, by rw [lw]; exact ey, b⟩)
        rcases hw with hs | ⟨t, zs, rfl, ht, hz⟩
        · exact bad (.inl hs)
        · match zs, hz, ht with
          | [x1, x2], hz, ht =>
            have o1 := hz x1 (List.mem_cons_self)
            have o2 := hz x2 (List.mem_cons_of_mem _ List.mem_cons_self)
            cases ew : winB ss (edge ss ws ws.length) cols x1 x2 with
            | false => exact bad (.inr (.inr ⟨t, x1, x2, rfl, ht, o1, o2, ew⟩))
            | true =>
              unfold winB at ew
              rw [Bool.and_eq_true] at ew
              obtain ⟨e1, e2⟩ := ew
              obtain ⟨n, rfl, n0, n1⟩ := betw_true e1
              obtain ⟨c, rfl, c0, c1⟩ := betw_true (show betw x1 (edge ss ws ws.length) ((cols : Int) - (wdt ss n.toNat : Int)) = true from e2)
              obtain ⟨n, rfl⟩ := Int.eq_ofNat_of_zero_le n0
              obtain ⟨c, rfl⟩ := Int.eq_ofNat_of_zero_le (show 0 ≤ c by omega)
              rw [Int.toNat_natCast] at c1
              refine .inl ⟨ws ++ [(c, n)], by rw [List.length_append, lw]; rfl, ?_, wk.snoc (by show n < ss.length; omega) (by show edge ss ws ws.length ≤ c; omega) (by show c + wdt ss n ≤ cols; omega)⟩
              rw [take_snoc ey]
              exact plc_snoc pl ht
          | [], _, ht => exact bad (.inr (.inl ⟨t, [], rfl, ht, by decide⟩))
          | [x1], _, ht => exact bad (.inr (.inl ⟨t, _, rfl, ht, by show 1 ≠ 2; decide⟩))
          | x1 :: x2 :: x3 :: r, _, ht => exact bad (.inr (.inl ⟨t, _, rfl, ht, by show r.length + 3 ≠ 2; omega⟩))
      · exact .inr b
  rcases key ys.length (Nat.le_refl _) with ⟨ws, lw, pl, wk⟩ | b
  · rw [List.take_length] at pl
    exact .inl ⟨ws, a, ys, rfl, ha, pl, wk⟩
  · exact .inr b
/-! ### isinstance by kinds -/
theorem tyx_of {K : PySem.W.Frag} {H : Hp} {x : V} {T : String} (t : TyB K H x T) (ok : tyOk T = true) : TyX K H x (.type T) := by
  cases t with
  | non => exact .base .non
  | bl b => exact .base (.bl b)
  | int i => exact .base (.int i)
  | str x => exact .base (.str x)
  | byt b => exact absurd ok (by decide +kernel)
  | @lst a xs h =>
    rcases h with (h | ⟨o, h⟩) | ⟨o, its, n, e, c, _⟩
    · exact .base (.lst h)
    · exact .base (.frz h)
    · exact .kList e c
  | @tup a xs h =>
    rcases h with (h | ⟨o, h⟩) | ⟨o, its, n, e, c, _⟩
    · exact .base (.tup h)
    · exact .fTuple h
    · exact .kTuple e c
  | @dK a kvs h => exact .base (.dK h)
theorem kit_tup {K : PySem.W.Frag} {T : String} (ok : tyOk T = true) : PySem.W.kitOne K (.type T) (.type "tuple") = some (decide (T = "tuple")) := by
  unfold tyOk at ok
  rw [decide_eq_true_iff] at ok
  rcases ok with rfl | rfl | rfl | rfl | rfl | rfl | rfl <;> exact kit_ty (by decide +kernel)
theorem kit_int {K : PySem.W.Frag} {T : String} (ok : tyOk T = true) : PySem.W.kitOne K (.type T) (.type "int") = some (decide (T = "int") || decide (T = "bool")) := by
  unfold tyOk at ok
  rw [decide_eq_true_iff] at ok
  rcases ok with rfl | rfl | rfl | rfl | rfl | rfl | rfl <;> exact kit_ty (by decide +kernel)
theorem kit_bool {K : PySem.W.Frag} {T : String} (ok : tyOk T = true) : PySem.W.kitOne K (.type T) (.type "bool") = some (decide (T = "bool")) := by
  unfold tyOk at ok
  rw [decide_eq_true_iff] at ok
  rcases ok with rfl | rfl | rfl | rfl | rfl | rfl | rfl <;> exact kit_ty (by decide +kernel)
end Dt
namespace Dt
open PySem PySem.Spec PyProof.Rows L2 L2X
open SX (S)
theorem sqT_dn {K : PySem.W.Frag} {H H' : Hp} {d a : Addr} {n : Nat} {xs : List V} (s : Do d H H') (D : Du H d n) (h : SqT K H a xs) : SqT K H' a xs := (Kp.of_do s).sqT D h
theorem Plc.dn {K : PySem.W.Frag} {H H' : Hp} {d : Addr} {n : Nat} {xs : List V} {ps : List (Nat × Nat)} (h : Plc K H xs ps) (D : Du H d n) (s : Do d H H') : Plc K H' xs ps := (Kp.of_do s).plc D h
abbrev sDV : Stmt := topS 61
abbrev nDV : List Str := ["draw", "shapes", "wide", "found", "at", "number"]
theorem scDV : FnScope nDV ["draw", "shapes", "wide"] (defScope sDV) := ⟨rfl, rfl, rfl, by decide +kernel, rfl, by decide +kernel, by decide +kernel⟩
def spDV (K : PySem.W.Frag) : Sp := fun vs H Q _ => ∃ (d l : Addr) (n high wide : Nat) (xs : List V) (ss : List Sh), vs = [.ref d, .ref l, .int wide] ∧ Du H d n ∧ n + 1000 ≤ fuel ∧ l ≠ d ∧ H l = some (.lst xs) ∧ Shs H xs ss ∧ (∀ s ∈ ss, PicR high s.w s.rs) ∧ 0 < ss.length ∧ ss.length ≤ 16 ∧ 1 ≤ wide ∧ wide ≤ 60 ∧
  ∀ (p : Addr) (zs : List V) (ws : List (Nat × Nat)) H', H p = none → H' p = some (.tup zs) → Plc K H' zs ws → WayOk ss wide ws → ws.length ≤ 60 → Du H' d (n + 60) → Do d H H' → Q (.ref p) H'
/-- what holds at each turn -/
structure DvW (K : PySem.W.Frag) (H0 H : Hp) (d l g : Addr) (n wide at1 : Nat) (xs zs : List V) (ss : List Sh) (ws : List (Nat × Nat)) : Prop where
  a : at1 ≤ wide
  hg : H g = some (.lst zs)
  pl : Plc K H zs ws
  wk : WayOk ss wide ws
  ed : edge ss ws ws.length ≤ at1
  lw : ws.length ≤ at1
  D : Du H d (n + at1)
  dn : Do d H0 H
  hl : H l = some (.lst xs)
  S : Shs H xs ss
abbrev sIy : Stmt := topS 62
abbrev nIy : List Str := ["shapes", "wide", "thing", "past", "one", "x"]
theorem scIy : FnScope nIy ["shapes", "wide", "thing"] (defScope sIy) := ⟨rfl, rfl, rfl, by decide +kernel, rfl, by decide +kernel, by decide +kernel⟩
def spIy (K : PySem.W.Frag) : Sp := fun vs H Q _ => ∃ (l d : Addr) (high wide : Nat) (xs : List V) (ss : List Sh) (x : V), vs = [.ref l, .int wide, x] ∧ H l = some (.lst xs) ∧ Shs H xs ss ∧ (∀ s ∈ ss, PicR high s.w s.rs) ∧ 0 < ss.length ∧
  ((∃ ws, GoodR K H ss wide x ws ∧ ∀ H', Same H H' → Q (.bl true) H') ∨ (BadK K d H ss wide x ∧ ∀ H', Same H H' → Q (.bl false) H'))
theorem isInt_or {x : V} {T : String} {K : PySem.W.Frag} {H : Hp} (t : TyB K H x T) : (!(decide (T = "int") || decide (T = "bool")) || decide (T = "bool")) = !isInt x := by
  cases t <;> rfl
section
variable {P : Program} {w : World} {K : PySem.W.Frag} {mg : Str → Option Value} {base : Heap}
theorem ok_dv {f : Addr} {fd : FuncData} {k : Nat} (F : Fun K "_law_drawn_way" "_law_drawn_way" sDV f fd) (T : Tx mg) (GN : Pm P w K mg base CX0 (k + 1) "_law_next" ["draw", "below"] spNx) :
    FnOk P w K mg base CX0 (k + 2) f fd ["draw", "shapes", "wide"] (spDV K) := by
  obtain ⟨fN, fdN, GN, mN, kN, bN⟩ := GN.ex
  refine F.ok scDV (fun vs H Q E h => ?_) (fun cdv A outer s H vs Q E hr h => ?_)
  · obtain ⟨d, l, _, _, _, _, _, rfl, _⟩ := h
    rfl
  · obtain ⟨d, l, n, high, wide, xs, ss, rfl, D, hn, nld, hl, Ss, pr, l0, l16, w0, w60, q⟩ := h
    have nd := scDV.nd
    refine ⟨_, pss_cons (ps_par (i := 3) (j := 4) (by rfl) nd rfl rfl (by decide) rfl rfl (pa_cons (pe_lst pa_nil) (pa_cons pe_int pa_nil)) (by rfl))
      (pss_cons (ps_while PassesOwn.never (pt_cmpR op_lt (pv 4) (pv 2) (nomark _))
        (C8.pss_cut (ps_set (i := 5) nd rfl (.inl rfl) (pe_call GN hr (by rfl) mN kN bN .nil pass0 (pa_cons (pv 0) (pa_cons (pe_op op_add (pe_callB call_len_seq (by rfl) T.len PySem.boot_len (pa_cons (pv 1) pa_nil)) pe_int) pa_nil))))
        (pss_one (ps_if (PW.pt (pw_and (pt_cmpR op_lt (pv 5) (pe_callB call_len_seq (by rfl) T.len PySem.boot_len (pa_cons (pv 1) pa_nil)) (nomark _)) (pw_and1 (pt_cmpR op_le (pe_op op_add (pv 4) (pe_callB call_len_str (by rfl) T.len PySem.boot_len (pa_cons (pe_ix (r := rIxT K) ix_tup (pe_ix (r := rIxT K) ix_tup (pe_ix (r := rIxL K) ix_list (pv 1) (pv 5) (fun _ _ => rfl)) pe_int (fun _ _ => rfl)) pe_int (fun _ _ => rfl)) pa_nil))) (pv 2) (nomark _)))))
          (C8.pss_cut (ps_expr (pe_bm PySem.F.plainAttrs_list PySem.F.slot_list_append PySem.F.type_list_append mt_append (pv 3) (pa_cons (pe_tup (pa_cons (pv 4) (pa_cons (pv 5) pa_nil))) pa_nil)))
          (pss_one (ps_set (i := 4) nd rfl (.inl rfl) (pe_op op_add (pv 4) (pe_callB call_len_str (by rfl) T.len PySem.boot_len (pa_cons (pe_ix (r := rIxT K) ix_tup (pe_ix (r := rIxT K) ix_tup (pe_ix (r := rIxL K) ix_list (pv 1) (pv 5) (fun _ _ => rfl)) pe_int (fun _ _ => rfl)) pe_int (fun _ _ => rfl)) pa_nil))))))
          (pss_one (ps_set (i := 4) nd rfl (.inl rfl) (pe_op op_add (pv 4) pe_int)))))))
      (pss_one (ps_ret (pe_callTy call_tuple_of (by rfl) T.tuple (by decide +kernel) (pa_cons (pv 3) pa_nil))))), ?_⟩
    have fu : n + 1000 ≤ 1000000000000 := hn
    refine ⟨by show 0 ≤ sizeLine; decide, fun g hg => ?_⟩
    have sg := same_upd (o := .lst []) hg
    have Dg := D.same sg
    have ngd := D.new hg
    have nlg : l ≠ g := ne_of_none hl hg
    refine ⟨_, _, rfl, fun m σ H2 => ∃ (y5 : Option V) (at1 : Nat) (zs : List V) (ws : List (Nat × Nat)), m = wide - at1 ∧ σ = [some (.ref d), some (.ref l), some (.int wide), some (.ref g), some (.int at1), y5] ∧ DvW K H H2 d l g n wide at1 xs zs ss ws,
      ⟨wide, none, 0, [], [], rfl, rfl, ⟨Nat.zero_le _, upd_same, ⟨rfl, fun i x p h => nomatch h⟩, WayOk.nil, Nat.zero_le _, Nat.zero_le _, Dg, Do.same sg, sg _ _ hl, Ss.same sg⟩⟩, ?_⟩
    rintro m σ H2 ⟨y5, at1, zs, ws, rfl, rfl, W⟩
    refine ⟨.int at1, rfl, .int wide, rfl, _, _, rfl, rfl, _, rfl, ite2 (fun e => ?_) (fun e => ?_)⟩
    · have hlt : at1 < wide := by
        have := of_decide_eq_true e
        omega
      refine ⟨fun σ' H' => ∃ m', m' < wide - at1 ∧ ∃ (y5 : Option V) (at1 : Nat) (zs : List V) (ws : List (Nat × Nat)), m' = wide - at1 ∧ σ' = [some (.ref d), some (.ref l), some (.int wide), some (.ref g), some (.int at1), y5] ∧ DvW K H H' d l g n wide at1 xs zs ss ws, fun _ _ h => h, ?_⟩
      refine ⟨fun σ' H' => ∃ number : Nat, σ' = [some (.ref d), some (.ref l), some (.int wide), some (.ref g), some (.int at1), some (.int number)] ∧ H' g = some (.lst zs) ∧ Plc K H' zs ws ∧ Du H' d (n + at1 + 1) ∧ Do d H H' ∧ H' l = some (.lst xs) ∧ Shs H' xs ss, ?_, ?_⟩
      · have lx := W.S.len
        have := W.a
        refine ⟨.ref d, rfl, .ref l, rfl, l, xs, rfl, .inl (SqL.of W.hl), _, 2, rfl, rfl, d, _, _, rfl, W.D, (by show _ ≤ 1000000000000; omega), by omega, by omega, fun m H3 m0 m1 D3 dn3 => ?_⟩
        obtain ⟨m, rfl⟩ := Int.eq_ofNat_of_zero_le m0
        exact ⟨m, rfl, dn3 _ _ W.hg ngd, W.pl.dn W.D dn3, D3, W.dn.trans dn3, dn3 _ _ W.hl nld, W.S.dn W.D dn3⟩
      rintro _ H3 ⟨number, rfl, hg3, pl3, D3, dn3, hl3, Ss3⟩
      have lx := Ss3.len
      have wed := W.ed
      have wlw := W.lw
      have next : ∃ m', m' < wide - at1 ∧ ∃ (y5 : Option V) (at2 : Nat) (zs : List V) (ws : List (Nat × Nat)), m' = wide - at2 ∧ ([some (.ref d), some (.ref l), some (.int wide), some (.ref g), some (.int ((at1 : Int) + 1)), some (.int number)] : L2.St) = [some (.ref d), some (.ref l), some (.int wide), some (.ref g), some (.int at2), y5] ∧ DvW K H H3 d l g n wide at2 xs zs ss ws :=
        ⟨wide - (at1 + 1), by omega, some (.int number), at1 + 1, zs, ws, rfl, rfl, ⟨by omega, hg3, pl3, W.wk, by omega, by omega, D3, dn3, hl3, Ss3⟩⟩
      refine ⟨.int number, rfl, .ref l, rfl, l, xs, rfl, .inl (SqL.of hl3), _, _, rfl, rfl, _, rfl, ite2 (fun e1 => ?_) (fun e1 => ?_)⟩
      · have hnum : number < ss.length := by
          have := of_decide_eq_true e1
          omega
        have es : ss[number]? = some ss[number] := List.getElem?_eq_getElem hnum
        have ew := wdt_at es
        have prn := pr _ (List.getElem_mem hnum)
        generalize ss[number] = s' at es ew prn
        have ex : xs[number]? = some (xs[number]'(by omega)) := List.getElem?_eq_getElem (by omega)
        have h0 := prn.h0
        have er : s'.rs[0]? = some (s'.rs[0]'(by rw [prn.len]; omega)) := List.getElem?_eq_getElem (by rw [prn.len]; omega)
        have lr := (prn.row _ (List.mem_of_getElem? er)).len
        generalize s'.rs[0]'(by rw [prn.len]; omega) = r0 at er lr
        have ww1 := prn.w1
        have ww0 := prn.w0
        have lz : (S r0).length ≤ sizeLine := by
          rw [SX.S_len, lr]
          exact Nat.le_of_lt (small1000 (by omega))
        have lS : (S r0).length = s'.w := by rw [SX.S_len, lr]
        have wid : ∀ (H4 : Hp), Shs H4 xs ss → ∃ (t p : Addr), xs[number]? = some (.ref t) ∧ H4 t = some (.tup [ch s'.sg, .ref p]) ∧ H4 p = some (.tup (s'.rs.map rv)) := fun H4 h2 => by
          obtain ⟨t, p, e, ht, hp⟩ := h2.at_ number _ s' ex es
          exact ⟨t, p, by rw [ex, e], ht, hp⟩
        obtain ⟨t, p, et, ht, hp⟩ := wid H3 Ss3
        refine ⟨.int at1, rfl, .ref l, rfl, .int number, rfl, l, _, (number : Int), .ref t, rfl, rfl, SqL.of hl3, atI_nat et, t, _, 1, .ref p, rfl, rfl, SqT.of ht, rfl, p, _, 0, rv r0, rfl, rfl, SqT.of hp, atI_nat (j := 0) (by rw [List.getElem?_map, er]; rfl), S r0, rfl, lz, at1, _, rfl, rfl, .int wide, rfl, _, wide, rfl, rfl, _, rfl, ?_⟩
        rw [lS]
        by_cases hfit : at1 + s'.w ≤ wide
        · refine iteY (decide_eq_true (by omega)) ?_
          refine ⟨fun σ' H' => ∃ zs', σ' = [some (.ref d), some (.ref l), some (.int wide), some (.ref g), some (.int at1), some (.int number)] ∧ H' g = some (.lst zs') ∧ Plc K H' zs' (ws ++ [(at1, number)]) ∧ Du H' d (n + at1 + 1) ∧ Do d H H' ∧ H' l = some (.lst xs) ∧ Shs H' xs ss, ?_, ?_⟩
          · refine ⟨.ref g, rfl, .inl ⟨rfl, _, SqL.of hg3⟩, .int at1, rfl, .int number, rfl, by show 2 ≤ sizeLine; decide, fun u hu => ?_⟩
            have su := same_upd (o := .tup [V.int (at1 : Int), V.int (number : Int)]) hu
            refine ⟨g, _, _, rfl, rfl, su _ _ hg3, ?_, zs ++ [.ref u], rfl, upd_same, plc_one pl3 hg3 hu, (D3.same su).upd ngd, (dn3.trans (Do.same su)).upd hg, ?_, (Ss3.same su).updl (su _ _ hg3)⟩
            · rw [pl3.len]
              exact small1000 (by omega)
            · rw [upd_ne nlg]
              exact su _ _ hl3
          rintro _ H4 ⟨zs', rfl, hg4, pl4, D4, dn4, hl4, Ss4⟩
          obtain ⟨t, p, et, ht, hp⟩ := wid H4 Ss4
          refine ⟨.int at1, rfl, .ref l, rfl, .int number, rfl, l, _, (number : Int), .ref t, rfl, rfl, SqL.of hl4, atI_nat et, t, _, 1, .ref p, rfl, rfl, SqT.of ht, rfl, p, _, 0, rv r0, rfl, rfl, SqT.of hp, atI_nat (j := 0) (by rw [List.getElem?_map, er]; rfl), S r0, rfl, lz, at1, _, rfl, rfl, wide - (at1 + s'.w), by omega, some (.int number), at1 + s'.w, zs', ws ++ [(at1, number)], rfl, by rw [lS, Int.natCast_add]; rfl, ⟨hfit, hg4, pl4, W.wk.snoc hnum wed (by show at1 + wdt ss number ≤ wide; omega), ?_, by rw [List.length_append, List.length_singleton]; omega, D4.le (by omega), dn4, hl4, Ss4⟩⟩
          rw [List.length_append, List.length_singleton, edge_at (p := (at1, number)) (by rw [List.getElem?_append_right (Nat.le_refl _), Nat.sub_self]; rfl)]
          show at1 + wdt ss number ≤ _
          omega
        · exact iteE (decide_eq_false (by omega)) ⟨.int at1, rfl, at1, 1, rfl, rfl, next⟩
      · exact iteF ⟨.int at1, rfl, at1, 1, rfl, rfl, next⟩
    · have hge : at1 = wide := by
        have h1 : ¬ ((at1 : Int) < (wide : Int)) := fun z => by
          rw [decide_eq_true z] at e
          exact absurd rfl e
        have := W.a
        omega
      have := W.lw
      refine ⟨.ref g, rfl, g, zs, rfl, .inl ⟨SqL.of W.hg, fun p hp => ?_⟩⟩
      have sp := same_upd (o := .tup zs) hp
      exact q p zs ws _ (W.dn.nn W.D hp) upd_same (W.pl.same sp) W.wk (by omega) ((W.D.same sp).le (by omega)) (W.dn.trans (Do.same sp))
end
end Dt
namespace Dt
open PySem PySem.Spec PyProof.Rows L2 L2X
open SX (S)
theorem winB_int {ss : List Sh} {e : Nat} {cols c n : Int} : winB ss e cols (.int c) (.int n) = (decide (0 ≤ n) && decide (n ≤ (ss.length : Int) - 1) && (decide ((e : Int) ≤ c) && decide (c ≤ cols - (wdt ss n.toNat : Int)))) := rfl
theorem winB_no {ss : List Sh} {e : Nat} {cols : Int} {x1 x2 : V} (h : isInt x1 = false ∨ isInt x2 = false) : winB ss e cols x1 x2 = false := by
  unfold winB
  rcases h with h | h
  · cases x2 with
    | int n =>
      show (_ && betw x1 _ _) = false
      rw [betw_no h, Bool.and_false]
    | _ => exact Bool.and_false _
  · rw [betw_no h, Bool.false_and]
theorem isInt_is {x : V} (h : isInt x = true) : ∃ i : Int, x = .int i := by
  cases x with
  | int i => exact ⟨i, rfl⟩
  | _ => exact nomatch h
theorem filt2 (x1 x2 : V) : ([x1, x2].filter fun z => !isInt z) = [] ↔ isInt x1 = true ∧ isInt x2 = true := by
  cases h1 : isInt x1 <;> cases h2 : isInt x2 <;> simp [h1, h2]
theorem dp_filt {K : PySem.W.Frag} {d : Addr} {H : Hp} : ∀ zs : List V, (∀ z ∈ zs, OZ d H z) → ∃ ds, DpAll K H (zs.filter fun z => !isInt z) ds ∧ ds.length = (zs.filter fun z => !isInt z).length ∧ PyData.canLayAll0 ds = true ∧ PyData.depthAll ds ≤ 4
  | [], _ => ⟨[], .nil, rfl, by simp [PyData.canLayAll0], by simp [PyData.depthAll]⟩
  | z :: r, h => by
    obtain ⟨ds, h1, h2, h3, h4⟩ := dp_filt r fun y hy => h y (List.mem_cons_of_mem _ hy)
    rw [List.filter_cons]
    split
    · obtain ⟨dt, g1, g2, g3⟩ := (h z List.mem_cons_self).dp (K := K)
      refine ⟨dt :: ds, .cons g1 h1, by rw [List.length_cons, List.length_cons, h2], by simp [PyData.canLayAll0, g2, h3], ?_⟩
      simp only [PyData.depthAll]
      omega
    · exact ⟨ds, h1, h2, h3, h4⟩
section
variable {P : Program} {w : World} {K : PySem.W.Frag} {mg : Str → Option Value} {base : Heap}
theorem ok_iy {f : Addr} {fd : FuncData} {k : Nat} (F : Fun K "_law_is_way" "_law_is_way" sIy f fd) (T : Tx mg) (is : mg "isinstance" = none) (bo : mg "bool" = none) : FnOk P w K mg base CX0 (k + 1) f fd ["shapes", "wide", "thing"] (spIy K) := by
  refine F.ok scIy (fun vs H Q E h => ?_) (fun cdv A outer s H vs Q E hr h => ?_)
  · obtain ⟨l, d, _, _, _, _, x, rfl, _⟩ := h
    rfl
  · obtain ⟨l, d, high, wide, xs, ss, x, rfl, hl, Ss, pr, l0, h⟩ := h
    have nd := scIy.nd
    refine ⟨_, pss_cons (ps_if (pt_not (pt_val (pe_callB call_isi (by rfl) is (by decide +kernel) (pa_cons (pv 2) (pa_cons (pe_bltn (v := .ty "tuple") (u := .type "tuple") (by rfl) T.tuple (by decide +kernel) rfl) pa_nil))))) (pss_one (ps_ret pe_bl)) pss_nil)
      (pss_cons (ps_set (i := 3) nd rfl (.inl rfl) pe_int)
      (pss_cons (ps_for PassesOwn.never rfl (pi_tup (pv 2)) (pg_name (i := 4) nd rfl (Or.inl rfl))
        (pss_cons (ps_if (PW.pt (pw_or (pt_not (pt_val (pe_callB call_isi (by rfl) is (by decide +kernel) (pa_cons (pv 4) (pa_cons (pe_bltn (v := .ty "tuple") (u := .type "tuple") (by rfl) T.tuple (by decide +kernel) rfl) pa_nil))))) (pw_or1 (pt_cmpR op_ne (pe_callB call_len_seq (by rfl) T.len PySem.boot_len (pa_cons (pv 4) pa_nil)) pe_int (nomark _))))) (pss_one (ps_ret pe_bl)) pss_nil)
        (pss_cons (ps_if (PW.pt (pw_or (pt_cmpR (op_neD hr.units) (pe_lc (own := [("x", 5)]) (g := gName 5) rfl nd (pi_tup (pv 4)) (blkOk_by (N := nIy) (sc := defScope sIy) (by decide +kernel)) (fun _ _ _ _ _ => pg_name (i := 5) nd rfl (Or.inl rfl))
              (fun _ _ _ _ _ => pts_one (PW.pt (pw_or (pt_not (pt_val (pe_callB (call_isiQ (K := K) rfl) (by rfl) is (by decide +kernel) (pa_cons (pv 5) (pa_cons (pe_bltn (v := .ty "int") (u := .type "int") (by rfl) T.int (by decide +kernel) rfl) pa_nil))))) (pw_or1 (pt_val (pe_callB (call_isiQ (K := K) rfl) (by rfl) is (by decide +kernel) (pa_cons (pv 5) (pa_cons (pe_bltn (v := .ty "bool") (u := .type "bool") (by rfl) bo (by decide +kernel) rfl) pa_nil)))))))) (fun _ _ _ _ _ => pv 5)) (pe_lst pa_nil) (nomark _))
            (pw_or1 (pt_not (pt_chain op_le op_lt pe_int (pe_ix (r := rIxT K) ix_tup (pv 4) pe_int (fun _ _ => rfl)) (pe_callB call_len_seq (by rfl) T.len PySem.boot_len (pa_cons (pv 0) pa_nil))))))) (pss_one (ps_ret pe_bl)) pss_nil)
        (pss_cons (ps_if (PW.pt (pw_or (pt_cmpR op_lt (pe_ix (r := rIxT K) ix_tup (pv 4) pe_int (fun _ _ => rfl)) (pv 3) (nomark _)) (pw_or1 (pt_cmpR op_gt (pe_op op_add (pe_ix (r := rIxT K) ix_tup (pv 4) pe_int (fun _ _ => rfl)) (pe_callB call_len_str (by rfl) T.len PySem.boot_len (pa_cons (pe_ix (r := rIxT K) ix_tup (pe_ix (r := rIxT K) ix_tup (pe_ix (r := rIxL K) ix_list (pv 0) (pe_ix (r := rIxT K) ix_tup (pv 4) pe_int (fun _ _ => rfl)) (fun _ _ => rfl)) pe_int (fun _ _ => rfl)) pe_int (fun _ _ => rfl)) pa_nil))) (pv 1) (nomark _))))) (pss_one (ps_ret pe_bl)) pss_nil)
        (pss_one (ps_set (i := 3) nd rfl (.inl rfl) (pe_op op_add (pe_ix (r := rIxT K) ix_tup (pv 4) pe_int (fun _ _ => rfl)) (pe_callB call_len_str (by rfl) T.len PySem.boot_len (pa_cons (pe_ix (r := rIxT K) ix_tup (pe_ix (r := rIxT K) ix_tup (pe_ix (r := rIxL K) ix_list (pv 0) (pe_ix (r := rIxT K) ix_tup (pv 4) pe_int (fun _ _ => rfl)) (fun _ _ => rfl)) pe_int (fun _ _ => rfl)) pe_int (fun _ _ => rfl)) pa_nil)))))))))
      (pss_one (ps_ret pe_bl)))), ?_⟩
    have h2 : (Smp d H x ∧ ∀ H', Same H H' → Q (.bl false) H') ∨ ∃ (a : Addr) (zs : List V) (ws : List (Nat × Nat)), x = .ref a ∧ SqT K H a zs ∧ Plc K H (zs.take ws.length) ws ∧ WayOk ss wide ws ∧ (zs.length = ws.length ∧ (∀ H', Same H H' → Q (.bl true) H') ∨ ∃ y, zs[ws.length]? = some y ∧ BadY K d H ss (edge ss ws ws.length) wide y ∧ ∀ H', Same H H' → Q (.bl false) H') := by
      rcases h with ⟨ws, ⟨a, zs, rfl, ht, pl, wk⟩, q⟩ | ⟨hs | ⟨a, zs, ws, y, rfl, ht, _, pl, wk, hy, bq⟩, q⟩
      · have e : zs.take ws.length = zs := by rw [← pl.len, List.take_length]
        exact .inr ⟨a, zs, ws, rfl, ht, by rw [e]; exact pl, wk, .inl ⟨pl.len, q⟩⟩
      · exact .inl ⟨hs, q⟩
      · exact .inr ⟨a, zs, ws, rfl, ht, pl, wk, .inr ⟨y, hy, bq, q⟩⟩
    have lxs := Ss.len
    rcases h2 with ⟨hs, q⟩ | ⟨a, zs, ws, rfl, ha, pl, wk, h⟩
    · obtain ⟨T', t, ok, ne⟩ := hs.ty (K := K)
      refine ⟨x, rfl, x, .ty "tuple", .type T', .type "tuple", _, rfl, .ty "tuple", tyx_of t ok, kit_tup ok, _, rfl, iteY ?_ (q H (Same.refl H))⟩
      rw [decide_eq_false ne]
      rfl
    refine ⟨.ref a, rfl, .ref a, .ty "tuple", .type "tuple", .type "tuple", _, rfl, .ty "tuple", tyx_of (.tup ha) rfl, kit_tup rfl, _, rfl, iteE (by decide +kernel) ?_⟩
    refine ⟨.ref a, rfl, a, rfl, ⟨_, ha⟩, for_tup (K := K) (a := a) (xs := zs) (fun i σ H1 => ∃ y4, σ = [some (.ref l), some (.int wide), some (.ref a), some (.int (edge ss ws i)), y4, none] ∧ Same H H1 ∧ i ≤ ws.length) ⟨none, rfl, Same.refl H, Nat.zero_le _⟩ (fun i σ H1 _ z => by
      obtain ⟨_, _, sm, _⟩ := z
      exact sameT sm ha) ?_ ?_⟩
    · rintro i y σ H1 hx ⟨y4, rfl, sm, hi⟩
      have hy : (Smp d H y ∧ ∀ H', Same H H' → Q (.bl false) H') ∨ (∃ t us, y = .ref t ∧ SqT K H t us ∧ us.length ≠ 2 ∧ ∀ H', Same H H' → Q (.bl false) H') ∨ ∃ t x1 x2, y = .ref t ∧ SqT K H t [x1, x2] ∧ OZ d H x1 ∧ OZ d H x2 ∧
          ((i < ws.length ∧ ∃ p : Nat × Nat, ws[i]? = some p ∧ x1 = .int p.1 ∧ x2 = .int p.2 ∧ winB ss (edge ss ws i) wide x1 x2 = true) ∨ (winB ss (edge ss ws i) wide x1 x2 = false ∧ ∀ H', Same H H' → Q (.bl false) H')) := by
        rcases Nat.lt_or_ge i ws.length with hlt | hge
        · have ep : ws[i]? = some ws[i] := List.getElem?_eq_getElem hlt
          generalize ws[i] = p at ep
          obtain ⟨t, rfl, hp⟩ := pl.at_ i y p (by rw [List.getElem?_take, if_pos hlt]; exact hx) ep
          obtain ⟨w1, w2, w3⟩ := wk i p ep
          exact .inr (.inr ⟨t, _, _, rfl, hp, .inr (.inr (.inl ⟨_, rfl⟩)), .inr (.inr (.inl ⟨_, rfl⟩)), .inl ⟨hlt, p, ep, rfl, rfl, winB_ok w1 w2 w3⟩⟩)
        · have ei : i = ws.length := by omega
          subst ei
          rcases h with ⟨e, _⟩ | ⟨y', hy, bq, q⟩
          · have := (List.getElem?_eq_some_iff.mp hx).1
            omega
          · rw [hy] at hx
            cases hx
            rcases bq with hs | ⟨t, us, e, ht, n⟩ | ⟨t, x1, x2, e, ht, o1, o2, wb⟩
            · exact .inl ⟨hs, q⟩
            · exact .inr (.inl ⟨t, us, e, ht, n, q⟩)
            · exact .inr (.inr ⟨t, x1, x2, e, ht, o1, o2, .inr ⟨wb, q⟩⟩)
      rcases hy with ⟨hs, q⟩ | ⟨t, us, rfl, ht, n2, q⟩ | ⟨t, x1, x2, rfl, ht, o1, o2, hy⟩
      · obtain ⟨T', t, ok, ne⟩ := (show Smp d H1 y from by
          rcases hs with h | h | h | h | ⟨t, us, e, n, h⟩
          · exact .inl h
          · exact .inr (.inl h)
          · exact .inr (.inr (.inl h))
          · exact .inr (.inr (.inr (.inl h)))
          · exact .inr (.inr (.inr (.inr ⟨t, us, e, n, sm _ _ h⟩)))).ty (K := K)
        refine ⟨y, rfl, y, .ty "tuple", .type T', .type "tuple", _, rfl, .ty "tuple", tyx_of t ok, kit_tup ok, _, rfl, iteY ?_ (iteT (q H1 sm))⟩
        rw [decide_eq_false ne]
        rfl
      · refine ⟨.ref t, rfl, .ref t, .ty "tuple", .type "tuple", .type "tuple", _, rfl, .ty "tuple", tyx_of (.tup (sameT sm ht)) rfl, kit_tup rfl, _, rfl, iteE (by decide +kernel) ?_⟩
        refine ⟨.ref t, rfl, t, us, rfl, .inr (sameT sm ht), rfl, _, rfl, iteY ?_ (q H1 sm)⟩
        rw [decide_eq_false (fun e => n2 (by have := V.int.inj e; omega))]
        rfl
      have ht1 := sameT sm ht
      refine ⟨.ref t, rfl, .ref t, .ty "tuple", .type "tuple", .type "tuple", _, rfl, .ty "tuple", tyx_of (.tup ht1) rfl, kit_tup rfl, _, rfl, iteE (by decide +kernel) ?_⟩
      refine ⟨.ref t, rfl, t, _, rfl, .inr ht1, rfl, _, rfl, iteE (by rw [decide_eq_true (show V.int (([x1, x2].length : Nat) : Int) = V.int 2 from rfl)]; rfl) ?_⟩
      have oo : ∀ z ∈ [x1, x2], OZ d H z := fun z hz => by
        rcases List.mem_cons.mp hz with e | e
        · rw [e]
          exact o1
        · rw [List.mem_singleton.mp e]
          exact o2
      refine ⟨.ref t, rfl, t, rfl, ⟨_, ht1⟩, fun D hD => lc_tup (K := K) (a := t) (xs := [x1, x2]) (fun j H2 => Same H1 H2 ∧ H2 D = some (.lst (([x1, x2].take j).filter fun z => !isInt z))) ⟨same_upd hD, upd_same⟩ (fun j H2 _ z => sameT z.1 ht1) ?_ ?_⟩
      · rintro j z H2 hz ⟨sm2, h2⟩
        have s2 := sm.trans sm2
        have oz : OZ d H2 z := by
          have h := oo z (List.mem_of_getElem? hz)
          rcases h with h | h | h | h | ⟨t, e, h⟩ | ⟨t, e, n, h⟩
          · exact .inl h
          · exact .inr (.inl h)
          · exact .inr (.inr (.inl h))
          · exact .inr (.inr (.inr (.inl h)))
          · exact .inr (.inr (.inr (.inr (.inl ⟨t, e, s2 _ _ h⟩))))
          · exact .inr (.inr (.inr (.inr (.inr ⟨t, e, n, s2 _ _ h⟩))))
        obtain ⟨T', tz, ok⟩ := oz.kt (K := K)
        have ei := isInt_ty tz
        have hj : (([x1, x2].take j).filter fun z => !isInt z).length < sizeLine := by
          have a1 := List.length_filter_le (fun z : V => !isInt z) ([x1, x2].take j)
          rw [List.length_take] at a1
          exact small1000 (by show _ ≤ 1000; have : [x1, x2].length = 2 := rfl; omega)
        have yes : isInt z = false → ∃ acc, H2 D = some (.lst acc) ∧ acc.length < sizeLine ∧ Same H1 (upd H2 D (.lst (acc ++ [z]))) ∧ (upd H2 D (.lst (acc ++ [z]))) D = some (.lst (([x1, x2].take (j + 1)).filter fun z => !isInt z)) := fun e => by
          refine ⟨_, h2, hj, same_over sm2 hD, ?_⟩
          rw [upd_same, take_snoc hz, List.filter_append, List.filter_cons_of_pos (by rw [e]; rfl), List.filter_nil]
        have no : isInt z = true → Same H1 H2 ∧ H2 D = some (.lst (([x1, x2].take (j + 1)).filter fun z => !isInt z)) := fun e => by
          refine ⟨sm2, ?_⟩
          rw [take_snoc hz, List.filter_append, List.filter_cons_of_neg (by rw [e]; decide), List.filter_nil, List.append_nil]
          exact h2
        refine ⟨rfl, z, rfl, z, .ty "int", .type T', .type "int", _, rfl, .ty "int", tyx_of tz ok, kit_int ok, _, rfl, ?_⟩
        by_cases t1 : T' = "int"
        · refine iteE (by rw [decide_eq_true t1]; rfl) ⟨z, rfl, z, .ty "bool", .type T', .type "bool", _, rfl, .ty "bool", tyx_of tz ok, kit_bool ok, _, rfl, iteE (by rw [t1]; decide +kernel) (no (by rw [← ei, decide_eq_true t1]))⟩
        · by_cases t2 : T' = "bool"
          · refine iteE (by rw [decide_eq_true t2, Bool.or_true]; rfl) ⟨z, rfl, z, .ty "bool", .type T', .type "bool", _, rfl, .ty "bool", tyx_of tz ok, kit_bool ok, _, rfl, iteY (by rw [decide_eq_true t2]) ⟨z, rfl, yes (by rw [← ei, decide_eq_false t1])⟩⟩
          · exact iteY (by rw [decide_eq_false t1, decide_eq_false t2]; rfl) (iteT ⟨z, rfl, yes (by rw [← ei, decide_eq_false t1])⟩)
      rintro H2 ⟨sm2, h2⟩
      have s2 := sm.trans sm2
      rw [List.take_length] at h2
      have oo2 : ∀ (H3 : Hp), Same H H3 → ∀ z ∈ [x1, x2], OZ d H3 z := fun H3 s3 z hz => by
        have h := oo z hz
        rcases h with h | h | h | h | ⟨t, e, h⟩ | ⟨t, e, n, h⟩
        · exact .inl h
        · exact .inr (.inl h)
        · exact .inr (.inr (.inl h))
        · exact .inr (.inr (.inr (.inl h)))
        · exact .inr (.inr (.inr (.inr (.inl ⟨t, e, s3 _ _ h⟩))))
        · exact .inr (.inr (.inr (.inr (.inr ⟨t, e, n, s3 _ _ h⟩))))
      refine ⟨by show 0 ≤ sizeLine; decide, fun e0 he0 => ?_⟩
      have se := same_upd (o := .lst []) he0
      have s3 := s2.trans se
      obtain ⟨ds, g1, g2, g3, g4⟩ := dp_filt (K := K) [x1, x2] (oo2 _ s3)
      refine ⟨.list ds, .list [], .lst (SqL.of (se _ _ h2)) g1, .lst (SqL.of upd_same) .nil, ?_, by decide +kernel, _, rfl, ?_⟩
      · unfold SeqAt.shaped
        rw [Bool.and_eq_true, decide_eq_true_iff]
        refine ⟨by simp [PyData.canLay0, g3], ?_⟩
        simp only [PyData.depth]
        omega
      generalize upd H2 e0 (.lst []) = H3 at s3 ⊢
      cases i1 : isInt x1 with
      | false =>
        have nb := winB_no (ss := ss) (e := edge ss ws i) (cols := wide) (x1 := x1) (x2 := x2) (.inl i1)
        have q : ∀ H', Same H H' → Q (.bl false) H' := by
          rcases hy with ⟨_, p, _, _, _, e⟩ | ⟨_, q⟩
          · rw [nb] at e
            cases e
          · exact q
        have dn : ds ≠ [] := fun z => by
          rw [z] at g2
          have := List.length_eq_zero_iff.mp g2.symm
          rw [filt2] at this
          rw [i1] at this
          exact nomatch this.1
        refine iteY ?_ (iteT (q H3 s3))
        cases ds with
        | nil => exact absurd rfl dn
        | cons a r => simp [PyData.eqv, PyData.eqvAll]
      | true =>
        cases i2 : isInt x2 with
        | false =>
          have nb := winB_no (ss := ss) (e := edge ss ws i) (cols := wide) (x1 := x1) (x2 := x2) (.inr i2)
          have q : ∀ H', Same H H' → Q (.bl false) H' := by
            rcases hy with ⟨_, p, _, _, _, e⟩ | ⟨_, q⟩
            · rw [nb] at e
              cases e
            · exact q
          have dn : ds ≠ [] := fun z => by
            rw [z] at g2
            have := List.length_eq_zero_iff.mp g2.symm
            rw [filt2] at this
            rw [i2] at this
            exact nomatch this.2
          refine iteY ?_ (iteT (q H3 s3))
          cases ds with
          | nil => exact absurd rfl dn
          | cons a r => simp [PyData.eqv, PyData.eqvAll]
        | true =>
          obtain ⟨c, rfl⟩ := isInt_is i1
          obtain ⟨n, rfl⟩ := isInt_is i2
          have d0 : ds = [] := by
            rw [(filt2 _ _).mpr ⟨i1, i2⟩] at g2
            exact List.length_eq_zero_iff.mp g2
          subst d0
          refine iteE (by simp [PyData.eqv, PyData.eqvAll]) ?_
          rw [winB_int] at hy
          have ht3 := sameT s3 ht
          refine ⟨.ref t, rfl, t, _, 1, .int n, rfl, rfl, ht3, rfl, 0, n, rfl, rfl, _, rfl, ?_⟩
          have bad : (decide (0 ≤ n) && decide (n ≤ (ss.length : Int) - 1) && (decide ((edge ss ws i : Int) ≤ c) && decide (c ≤ (wide : Int) - (wdt ss n.toNat : Int)))) = false → ∀ H', Same H H' → Q (.bl false) H' := fun e => by
            rcases hy with ⟨_, p, _, _, _, e2⟩ | ⟨_, q⟩
            · rw [e] at e2
              cases e2
            · exact q
          by_cases n0 : 0 ≤ n
          · refine iteY (decide_eq_true n0) ⟨.ref l, rfl, l, xs, rfl, .inl (SqL.of (s3 _ _ hl)), n, _, rfl, rfl, _, rfl, ?_⟩
            by_cases n1 : n < (ss.length : Int)
            · refine iteE (by rw [lxs, decide_eq_true n1]; rfl) ?_
              obtain ⟨n, rfl⟩ := Int.eq_ofNat_of_zero_le n0
              have hn : n < ss.length := by omega
              have es : ss[n]? = some ss[n] := List.getElem?_eq_getElem hn
              have ew := wdt_at es
              have prn := pr _ (List.getElem_mem hn)
              generalize ss[n] = s' at es ew prn
              have ex : xs[n]? = some (xs[n]'(by omega)) := List.getElem?_eq_getElem (by omega)
              obtain ⟨ts, pp, ets, hts, hpp⟩ := (Ss.same s3).at_ n _ s' ex es
              rw [ets] at ex
              have ww1 := prn.w1
              have h0 := prn.h0
              have er : s'.rs[0]? = some (s'.rs[0]'(by rw [prn.len]; omega)) := List.getElem?_eq_getElem (by rw [prn.len]; omega)
              have lr := (prn.row _ (List.mem_of_getElem? er)).len
              generalize s'.rs[0]'(by rw [prn.len]; omega) = r0 at er lr
              have lzz : (S r0).length ≤ sizeLine := by
                rw [SX.S_len, lr]
                exact Nat.le_of_lt (small1000 (by omega))
              have lS : (S r0).length = s'.w := by rw [SX.S_len, lr]
              rw [Int.toNat_natCast, ew] at bad hy
              refine ⟨.ref t, rfl, t, _, 0, .int c, rfl, rfl, ht3, rfl, .int (edge ss ws i), rfl, c, _, rfl, rfl, _, rfl, ?_⟩
              by_cases c0 : c < (edge ss ws i : Int)
              · refine iteY (decide_eq_true c0) (iteT (bad ?_ H3 s3))
                rw [decide_eq_false (p := (edge ss ws i : Int) ≤ c) (by omega), Bool.false_and, Bool.and_false]
              · refine iteE (decide_eq_false c0) ?_
                refine ⟨.ref t, rfl, t, _, 0, .int c, rfl, rfl, ht3, rfl, .ref l, rfl, .ref t, rfl, t, _, 1, .int n, rfl, rfl, ht3, rfl, l, _, (n : Int), .ref ts, rfl, rfl, SqL.of (s3 _ _ hl), atI_nat ex, ts, _, 1, .ref pp, rfl, rfl, SqT.of hts, rfl, pp, _, 0, rv r0, rfl, rfl, SqT.of hpp, atI_nat (j := 0) (by rw [List.getElem?_map, er]; rfl), S r0, rfl, lzz, c, _, rfl, rfl, .int wide, rfl, _, wide, rfl, rfl, _, rfl, ?_⟩
                rw [lS]
                by_cases c1 : (wide : Int) < c + (s'.w : Int)
                · refine iteY (decide_eq_true c1) (bad ?_ H3 s3)
                  rw [decide_eq_false (p := c ≤ (wide : Int) - (s'.w : Int)) (by omega), Bool.and_false, Bool.and_false]
                · refine iteE (decide_eq_false c1) ?_
                  rcases hy with ⟨hlt, p, ep, e1, e2, _⟩ | ⟨e2, _⟩
                  · cases e1
                    have en : n = p.2 := by have := V.int.inj e2; omega
                    refine ⟨.ref t, rfl, t, _, 0, .int p.1, rfl, rfl, ht3, rfl, .ref l, rfl, .ref t, rfl, t, _, 1, .int n, rfl, rfl, ht3, rfl, l, _, (n : Int), .ref ts, rfl, rfl, SqL.of (s3 _ _ hl), atI_nat ex, ts, _, 1, .ref pp, rfl, rfl, SqT.of hts, rfl, pp, _, 0, rv r0, rfl, rfl, SqT.of hpp, atI_nat (j := 0) (by rw [List.getElem?_map, er]; rfl), S r0, rfl, lzz, p.1, _, rfl, rfl, some (.ref t), ?_, s3, hlt⟩
                    rw [lS, edge_at ep, ← en, ew, Int.natCast_add]
                    rfl
                  · rw [decide_eq_true (p := (0 : Int) ≤ (n : Int)) (by omega), decide_eq_true (p := (n : Int) ≤ (ss.length : Int) - 1) (by omega), decide_eq_true (p := (edge ss ws i : Int) ≤ c) (by omega), decide_eq_true (p := c ≤ (wide : Int) - (s'.w : Int)) (by omega)] at e2
                    cases e2
            · refine iteY (by rw [lxs, decide_eq_false n1]; rfl) (bad ?_ H3 s3)
              rw [decide_eq_false (p := n ≤ (ss.length : Int) - 1) (by omega), Bool.and_false, Bool.false_and]
          · refine iteE (decide_eq_false n0) ⟨_, rfl, iteT (bad ?_ H3 s3)⟩
            rw [decide_eq_false n0, Bool.false_and, Bool.false_and]
    · rintro σ H1 ⟨y4, rfl, sm, hi⟩
      rcases h with ⟨e, q⟩ | ⟨y, hy, bq, q⟩
      · exact q H1 sm
      · have := (List.getElem?_eq_some_iff.mp hy).1
        omega
end
end Dt
/-! t[::-1] -/
namespace L2X
open PySem PySem.Spec PyProof.Rows L2
theorem fm_congr {α β : Type} {f g : α → Option β} : ∀ {l : List α}, (∀ x ∈ l, f x = g x) → l.filterMap f = l.filterMap g
  | [], _ => rfl
  | x :: l, h => by
    rw [List.filterMap_cons, List.filterMap_cons, h x List.mem_cons_self, fm_congr fun y hy => h y (List.mem_cons_of_mem _ hy)]
theorem pick_back (xs : Array Value) : ((List.range xs.size).filterMap fun (k : Nat) => xs[(((xs.size : Int) - 1) + (k : Int) * (-1)).toNat]?).toArray = xs.toList.reverse.toArray := by
  have e : ((List.range xs.size).filterMap fun (k : Nat) => xs[(((xs.size : Int) - 1) + (k : Int) * (-1)).toNat]?) = ((List.range xs.size).map fun k => xs.size - 1 - k).filterMap (xs[·]?) := by
    rw [List.filterMap_map]
    apply fm_congr
    intro k hk
    have := List.mem_range.mp hk
    have e2 : (((xs.size : Int) - 1) + (k : Int) * (-1)).toNat = xs.size - 1 - k := by omega
    rw [e2]
    rfl
  rw [e, PySem.W.krv_range, List.filterMap_reverse, PySem.W.krv_all]
section
variable {prog : Program} {w : World} {A : Around} {E : Value → Shared → Prop} {s : Shared}
theorem sliceApplied_back {sl : Addr} {vs : Value} {n : Nat} {Q : Int × Int × Nat → Shared → Prop} (hs : s.heap.IsSliceOf sl .none .none vs) (ps : IsPart vs (some (-1)))
    (h : Q ((n : Int) - 1, -1, n) s) : wpAny (model prog w) A (Builtin.Slice.sliceApplied (.ref sl) (pure (n : Int))) Q E s := by
  obtain ⟨os, hos, hcs, hds⟩ := id hs
  unfold Builtin.Slice.sliceApplied Builtin.Slice.sliceFields
  refine wpAny_bind (wpAny_bind (wpAny_field hos hds (x := .none) rfl (wpAny_bind (wpAny_field hos hds (x := .none) rfl (wpAny_bind (wpAny_field hos hds (x := vs) rfl (wpAny_pure ?_)))))))
  refine wpAny_bind (HT.slicePart_ ps ?_)
  show wpAny _ _ (if ((-1 : Int) == 0) = true then _ else _) _ _ s
  rw [if_neg (by decide)]
  refine wpAny_bind (slicePart_none (wpAny_bind (slicePart_none (wpAny_bind (wpAny_pure ?_)))))
  show wpAny _ _ (pure ((n : Int) - 1, (-1 : Int), Builtin.Slice.slicePlaces ((n : Int) - 1) (-1) (-1))) _ _ s
  have e : Builtin.Slice.slicePlaces ((n : Int) - 1) (-1) (-1) = n := by
    unfold Builtin.Slice.slicePlaces
    rw [if_neg (by decide)]
    by_cases q : (n : Int) - 1 > -1
    · rw [if_pos q]
      have : ((n : Int) - 1 - -1 - 1) / (- -1) = (n : Int) - 1 := by
        rw [show (- -1 : Int) = 1 by decide, Int.ediv_one]
        omega
      rw [this]
      omega
    · rw [if_neg q]
      omega
  rw [e]
  exact wpAny_pure h
theorem getItem_tuple_back {t sl : Addr} {items : Array Value} {vs : Value} {Q : Value → Shared → Prop} (ht : IsTup s.heap t items) (hs : s.heap.IsSliceOf sl .none .none vs) (ps : IsPart vs (some (-1)))
    (h : Q (.ref s.heap.objs.size) { s with heap := s.heap.push { cls := .type "tuple", data := .seq items.toList.reverse.toArray } }) (hsz : items.size ≤ sizeLine) : wpAny (model prog w) A (getItem (.ref t) (.ref sl)) Q E s := by
  have htake : sizeOk (.seq items.toList.reverse.toArray) := by
    show items.toList.reverse.toArray.size ≤ sizeLine
    rw [List.size_toArray, List.length_reverse, Array.length_toList]
    exact hsz
  obtain ⟨os, hos, hcs, hds⟩ := id hs
  have hTs : s.TypeIs (.ref sl) "slice" := ⟨os, hos, hcs⟩
  unfold getItem
  try with_reducible refine wpAny_holding ?_
  first | refine wpAny_bind (wpAny_pure ?_) | skip
  refine wpAny_bind (wpAny_sequenceKey ht.typeIs (by decide) ?_)
  refine wpAny_bind (wpAny_callSpecial?_slot (name := Str.ofString "__getitem__") ht.typeIs PyProof.Rows.slot_tuple_getitem
    (wpAny_call_entry PyProof.Rows.slot_tuple_getitem ht.typeIs entry_tuple_getitem ?_ (args_tuple_getitem _ _)))
  show wpAny _ _ (Builtin.Tuple.tupleItemsOf (.ref t) >>= _) _ _ s
  refine wpAny_bind (tupleItemsOf_ ht ?_)
  refine wpAny_bind (wpAny_typeOf hTs ?_)
  rw [if_pos (by decide)]
  refine wpAny_bind (sliceApplied_back hs ps ?_)
  have hno : ¬ ((((items.size : Int) - 1) == 0 && (-1 : Int) == 1 && items.size == items.size) = true) := by
    intro q
    rw [Bool.and_eq_true, Bool.and_eq_true] at q
    exact absurd q.1.2 (by decide)
  show wpAny _ _ (if (((items.size : Int) - 1) == 0 && (-1 : Int) == 1 && items.size == items.size) = true then _ else _) _ _ s
  rw [if_neg hno, pick_back]
  first
    | exact wpAny_bind (m := Builtin.Tuple.tupleExact _) (wpAny_newObj_type (wpAny_pure ⟨_, rfl, wpAny_pure h⟩) htake)
    | exact wpAny_bind (m := Builtin.Tuple.tupleExact _) (wpAny_newObj_type (wpAny_bind (wpAny_pure (wpAny_pure ⟨_, rfl, wpAny_pure h⟩))) htake)
    | exact wpAny_bind (wpAny_bind (m := Builtin.Tuple.tupleExact _) (wpAny_newObj_type (wpAny_pure (wpAny_pure ⟨_, rfl, wpAny_pure h⟩)) htake))
    | exact wpAny_bind (wpAny_bind (m := Builtin.Tuple.tupleExact _) (wpAny_newObj_type (wpAny_pure ⟨_, rfl, wpAny_pure h⟩) htake))
end
section
variable {X : Cx}
def tRevT (K : PySem.W.Frag) (te : TE) : TE := fun σ H Q => te σ H fun x H1 => ∃ a xs, x = .ref a ∧ SqT K H1 a xs ∧ ∀ p, H1 p = none → Q (.ref p) (upd H1 p (.tup xs.reverse))
theorem pe_revT {e : Expr} {te : TE} {k : Nat} {p1 p2 p3 pos : Pos} (he : PE X e te) : PE X (.Subscript e (.Slice none none (some (.UnaryOp .USub (.Constant (.int 1) k p1) p2)) p3) pos) (tRevT X.K te) := by
  refine ⟨fun pins s σ H Q I h => ?_⟩
  refine Subscript_ (thn (he.run pins s σ H _ I h) fun v s1 ⟨x, H1, I1, r1, q1⟩ => ?_)
  obtain ⟨a, xs, ex, hx, q⟩ := q1
  subst ex
  cases r1
  have hst : PO X (some (.UnaryOp .USub (.Constant (.int 1) k p1) p2)) (tPart (tUn (rU fun i => .int (-i)) (tC (.int 1)))) := po_some (pe_un un_neg pe_int)
  have hn : ∀ {o : Value}, IsPart o none → o = .none := fun p => by cases p; rfl
  refine wpAny_Slice (thn (po_none.run pins s1 σ H1 (fun o H2 => o = none ∧ H2 = H1) I1 ⟨rfl, rfl⟩) fun vl s2 ⟨l, H2, I2, pl, el, e2⟩ => ?_)
  subst el e2
  refine thn (po_none.run pins s2 σ H2 (fun o H3 => o = none ∧ H3 = H2) I2 ⟨rfl, rfl⟩) fun vu s3 ⟨u, H3, I3, pu, eu, e3⟩ => ?_
  subst eu e3
  have evl := hn pl
  have evu := hn pu
  subst evl evu
  refine thn (hst.run pins s3 σ H3 (fun o H4 => o = some (-1) ∧ H4 = H3) I3 ⟨1, rfl, -1, rfl, rfl, rfl⟩) fun vs s4 ⟨o, H4, I4, ps, eo, e4⟩ => ?_
  subst eo e4
  have I5 : Inv X pins σ H4 { s4 with heap := s4.heap.push { cls := .type "slice", data := .fields #[.none, .none, vs] } } := I4.kept (t' := s4.toks) fun b ob q => Heap.get?_push_of_some _ q
  obtain ⟨its, r, ht, hz⟩ := I5.tuple hx
  have hlen := r.length
  show wpAny (model X.prog X.w) X.A (subscriptTail e (.Slice none none (some (.UnaryOp .USub (.Constant (.int 1) k p1) p2)) p3) (.ref a) (.ref s4.heap.objs.size)) (EP X pins σ Q) X.xe { s4 with heap := s4.heap.push { cls := .type "slice", data := .fields #[.none, .none, vs] } }
  refine tail_any (ops := [.ref a, .ref s4.heap.objs.size]) ht.typeIs (PyProof.Rows.slot_tuple_getitem.lookup) ?_ (by with_unfolding_all rfl)
  refine getItem_tuple_back ht (Heap.IsSliceOf.new _ .none .none vs) ps ?_ (by rw [List.size_toArray]; omega)
  have e : its.toArray.toList.reverse.toArray = its.reverse.toArray := by simp
  rw [e]
  refine ⟨.ref _, _, I5.laid (t' := s4.toks) (o := .tup xs.reverse) (fun b ob q => Heap.get?_push_of_some _ q) (Nat.le_refl _) ?_, rfl, q _ (I5.hok.fresh (Nat.le_refl _))⟩
  exact ⟨by rw [List.length_reverse]; exact hz, its.reverse, r.reverse, IsTup.new _ _⟩
end
end L2X
namespace Dt
open PySem PySem.Spec PyProof.Rows L2 L2X
open SX (S)
structure AO (K : PySem.W.Frag) (d : Addr) (H : Hp) (x : V) : Prop where
  o : OZ d H x
  w : WK K d H x
  r : RdK K d H x
theorem AO.kp {K : PySem.W.Frag} {d : Addr} {H H' : Hp} {n : Nat} {x : V} (h : AO K d H x) (k : Kp d H H') (D : Du H d n) : AO K d H' x := ⟨h.o.kp k D, h.w.kp k D, h.r.kp k D⟩
theorem ao_smp {K : PySem.W.Frag} {d : Addr} {H : Hp} {x : V} (o : OZ d H x) (s : Smp d H x) : AO K d H x := ⟨o, .inl s, .inl s⟩
theorem cutV_mem {xs : List V} {lo hi : Option Int} {y : V} (h : y ∈ cutV xs lo hi) : y ∈ xs := List.mem_of_mem_drop (List.mem_of_mem_take h)
theorem cutV_len (xs : List V) (lo hi : Option Int) : (cutV xs lo hi).length ≤ xs.length := by
  unfold cutV
  rw [List.length_take, List.length_drop]
  omega
theorem plc_wk {K : PySem.W.Frag} {d : Addr} {H : Hp} {zs : List V} {ws : List (Nat × Nat)} (pl : Plc K H zs ws) : ∀ y ∈ zs, WK K d H y := fun y hy => by
  obtain ⟨i, hi⟩ := List.mem_iff_getElem?.mp hy
  have hl := (List.getElem?_eq_some_iff.mp hi).1
  have lz := pl.len
  obtain ⟨t, e, ht⟩ := pl.at_ i y (ws[i]'(by omega)) hi (List.getElem?_eq_getElem (by omega))
  refine .inr ⟨t, _, e, ht, fun z hz => ?_⟩
  rcases List.mem_cons.mp hz with e | e
  · exact .inr (.inr (.inl ⟨_, e⟩))
  · exact .inr (.inr (.inl ⟨_, List.mem_singleton.mp e⟩))
theorem wk_pair {K : PySem.W.Frag} {d : Addr} {H : Hp} {t : Addr} {zs : List V} (h : H t = some (.tup zs)) (o : ∀ z ∈ zs, OZ d H z) : WK K d H (.ref t) := .inr ⟨t, zs, rfl, SqT.of h, o⟩
theorem all2 {p : V → Prop} {x y : V} (a : p x) (b : p y) : ∀ z ∈ [x, y], p z := fun z hz => by
  rcases List.mem_cons.mp hz with e | e
  · rw [e]
    exact a
  · rw [List.mem_singleton.mp e]
    exact b
theorem all_app {p : V → Prop} {xs ys : List V} (a : ∀ z ∈ xs, p z) (b : ∀ z ∈ ys, p z) : ∀ z ∈ xs ++ ys, p z := fun z hz => (List.mem_append.mp hz).elim (a z) (b z)
theorem all1 {p : V → Prop} {x : V} (a : p x) : ∀ z ∈ [x], p z := fun z hz => by
  rw [List.mem_singleton.mp hz]
  exact a
abbrev sOw : Stmt := topS 63
abbrev nOw : List Str := ["draw", "way", "many", "at", "sort", "odd", "column", "number", "some"]
theorem scOw : FnScope nOw ["draw", "way", "many"] (defScope sOw) := ⟨rfl, rfl, rfl, by decide +kernel, rfl, by decide +kernel, by decide +kernel⟩
def spOw (K : PySem.W.Frag) : Sp := fun vs H Q _ => ∃ (d a : Addr) (n many : Nat) (zs : List V) (ws : List (Nat × Nat)), vs = [.ref d, .ref a, .int many] ∧ Du H d n ∧ n + 10 ≤ fuel ∧ H a = some (.tup zs) ∧ Plc K H zs ws ∧ ws.length ≤ 60 ∧ 1 ≤ many ∧ many ≤ 16 ∧
  ∀ (x : V) H', RdK K d H' x → Du H' d (n + 4) → Do d H H' → Q x H'
section
variable {P : Program} {w : World} {K : PySem.W.Frag} {mg : Str → Option Value} {base : Heap}
theorem ok_ow {f : Addr} {fd : FuncData} {k : Nat} (F : Fun K "_law_otherwise" "_law_otherwise" sOw f fd) (T : Tx mg) (GN : Pm P w K mg base CX0 (k + 1) "_law_next" ["draw", "below"] spNx) (GK : Pm P w K mg base CX0 (k + 1) "_law_pick" ["draw", "some"] (spPk K)) : FnOk P w K mg base CX0 (k + 2) f fd ["draw", "way", "many"] (spOw K) := by
  obtain ⟨fN, fdN, GN, mN, kN, bN⟩ := GN.ex
  obtain ⟨fK, fdK, GK, mK, kK, bK⟩ := GK.ex
  refine F.ok scOw (fun vs H Q E h => ?_) (fun cdv A outer s H vs Q E hr h => ?_)
  · obtain ⟨d, a, _, _, _, _, rfl, _⟩ := h
    rfl
  · obtain ⟨d, a, n, many, zs, ws, rfl, D, hn, ha, pl, lw, m1, m16, q⟩ := h
    have nd := scOw.nd
    refine ⟨_, C8.pss_cut (ps_par (i := 3) (j := 4) (by rfl) nd rfl rfl (by decide) rfl rfl (pa_cons (pe_call GN hr (by rfl) mN kN bN .nil pass0 (pa_cons (pv 0) (pa_cons (pe_op op_add (pe_callB call_len_seq (by rfl) T.len PySem.boot_len (pa_cons (pv 1) pa_nil)) pe_int) pa_nil))) (pa_cons (pe_call GN hr (by rfl) mN kN bN .nil pass0 (pa_cons (pv 0) (pa_cons pe_int pa_nil))) pa_nil)) (by rfl))
      (C8.pss_cut (ps_set (i := 5) nd rfl (.inl rfl) (pe_call GK hr (by rfl) mK kK bK .nil pass0 (pa_cons (pv 0) (pa_cons (pe_lst (pa_cons pe_non (pa_cons pe_bl (pa_cons (pe_un un_neg pe_int) (pa_cons pe_str (pa_cons (pe_tup (pa_cons pe_int pa_nil)) (pa_cons pe_int (pa_cons (pv 2) (pa_cons pe_int (pa_cons (pe_lst (pa_cons pe_int (pa_cons pe_int pa_nil))) pa_nil)))))))))) pa_nil))))
      (pss_cons (ps_if (pt_cmpR op_eq (pv 4) pe_int (nomark _)) (pss_one (ps_ret (pe_revT (pv 1)))) pss_nil)
      (pss_cons (ps_if (pt_cmpR op_eq (pv 4) pe_int (nomark _)) (pss_one (ps_ret (pe_callTy call_list_of (by rfl) T.list (by decide +kernel) (pa_cons (pv 1) pa_nil)))) pss_nil)
      (pss_cons (ps_if (PW.pt (pw_or (pt_cmpR op_eq (pv 4) pe_int (nomark _)) (pw_or1 (pt_cmpR op_eq (pv 3) (pe_callB call_len_seq (by rfl) T.len PySem.boot_len (pa_cons (pv 1) pa_nil)) (nomark _)))))
          (pss_one (ps_ret (pe_call GK hr (by rfl) mK kK bK .nil pass0 (pa_cons (pv 0) (pa_cons (pe_lst (pa_cons (pe_op op_catA (pv 1) (pe_tup (pa_cons (pe_tup (pa_cons pe_int (pa_cons pe_int pa_nil))) pa_nil))) (pa_cons (pe_op op_catA (pv 1) (pe_tup (pa_cons (pv 5) pa_nil))) (pa_cons (pe_op op_catA (pv 1) (pe_slice (r := rSlA K) sl_tupA (pv 1) po_none (po_some pe_int))) (pa_cons (pe_slice (r := rSlA K) sl_tupA (pv 1) po_none (po_some (pe_un un_neg pe_int))) (pa_cons (pv 5) pa_nil)))))) pa_nil))))) pss_nil)
      (pss_cons (ps_asg (pe_ix (r := rIxT K) ix_tup (pv 1) (pv 3) (fun _ _ => rfl)) (pg_tup rfl (pgs_cons (pg_name (i := 6) nd rfl (Or.inl rfl)) (pgs_cons (pg_name (i := 7) nd rfl (Or.inl rfl)) pgs_nil))))
      (C8.pss_cut (ps_set (i := 8) nd rfl (.inl rfl) (pe_lst (pa_cons (pe_tup (pa_cons (pv 5) (pa_cons (pv 7) pa_nil))) (pa_cons (pe_tup (pa_cons (pv 6) (pa_cons (pv 5) pa_nil))) (pa_cons (pe_tup (pa_cons (pe_op op_add (pv 6) pe_int) (pa_cons (pv 7) pa_nil))) (pa_cons (pe_tup (pa_cons (pe_op op_sub (pv 6) pe_int) (pa_cons (pv 7) pa_nil))) (pa_cons (pe_tup (pa_cons (pv 6) (pa_cons (pv 7) (pa_cons pe_int pa_nil)))) pa_nil)))))))
      (C8.pss_cut (ps_set (i := 8) nd rfl (.inl rfl) (pe_op op_cat (pv 8) (pe_lst (pa_cons (pe_lst (pa_cons (pv 6) (pa_cons (pv 7) pa_nil))) (pa_cons (pe_tup (pa_cons (pv 6) (pa_cons (pe_op op_mod (pe_op op_add (pv 7) pe_int) (pv 2)) pa_nil))) (pa_cons (pv 5) pa_nil))))))
      (pss_one (ps_ret (pe_op op_catA (pe_op op_catA (pe_slice (r := rSlA K) sl_tupA (pv 1) po_none (po_some (pv 3))) (pe_tup (pa_cons (pe_ix (r := rIxL K) ix_list (pv 8) (pe_call GN hr (by rfl) mN kN bN .nil pass0 (pa_cons (pv 0) (pa_cons pe_int pa_nil))) (fun _ _ => rfl)) pa_nil))) (pe_slice (r := rSlA K) sl_tupA (pv 1) (po_some (pe_op op_add (pv 3) pe_int)) po_none))))))))))), ?_⟩
    have fu : n + 10 ≤ 1000000000000 := hn
    have lz := pl.len
    have lzs : zs.length ≤ 60 := by omega
    have iO : ∀ (H : Hp) (i : Int), OZ d H (.int i) := fun H i => .inr (.inr (.inl ⟨i, rfl⟩))
    -- where, and how
    refine ⟨fun σ' H' => ∃ (at1 : Nat) (sort : Int), σ' = [some (.ref d), some (.ref a), some (.int many), some (.int at1), some (.int sort), none, none, none, none] ∧ at1 ≤ zs.length ∧ H' a = some (.tup zs) ∧ Plc K H' zs ws ∧ Du H' d (n + 2) ∧ Do d H H', ?_, ?_⟩
    · refine ⟨.ref d, rfl, .ref a, rfl, a, zs, rfl, .inr (SqT.of ha), _, 1, rfl, rfl, d, _, n, rfl, D, (by show n ≤ 1000000000000; omega), by omega, by omega, fun m H1 m0 m1 D1 dn1 => ?_⟩
      obtain ⟨m, rfl⟩ := Int.eq_ofNat_of_zero_le m0
      refine ⟨.ref d, rfl, d, 9, _, rfl, D1, (by show _ ≤ 1000000000000; omega), by decide, by decide, fun m' H2 m0' m1' D2 dn2 => ?_⟩
      have dn := dn1.trans dn2
      exact ⟨_, _, rfl, m, m', rfl, by omega, (Kp.of_do dn).tup D ha, (Kp.of_do dn).plc D pl, D2, dn⟩
    rintro _ H1 ⟨at1, sort, rfl, hat, ha1, pl1, D1, dn1⟩
    -- something odd
    refine ⟨fun σ' H' => ∃ odd, σ' = [some (.ref d), some (.ref a), some (.int many), some (.int at1), some (.int sort), some odd, none, none, none] ∧ AO K d H' odd ∧ H' a = some (.tup zs) ∧ Plc K H' zs ws ∧ Du H' d (n + 3) ∧ Do d H H', ?_, ?_⟩
    · refine ⟨.ref d, rfl, 1, rfl, by show 1 ≤ sizeLine; decide, fun t1 ht1 => ⟨.int many, rfl, by show 2 ≤ sizeLine; decide, fun t2 ht2 => ⟨by show 9 ≤ sizeLine; decide, fun l hl => ?_⟩⟩⟩
      have e1 := same_upd (o := .lst [V.int 0, V.int 0]) ht2 _ _ (upd_same (H := H1) (a := t1) (o := .tup [V.int 0]))
      have n2d : t2 ≠ d := (D1.same (same_upd (o := .tup [V.int 0]) ht1)).new ht2
      have s2 := (same_upd (o := .tup [V.int 0]) ht1).trans (same_upd (o := .lst [V.int 0, V.int 0]) ht2)
      have e2 : (upd (upd H1 t1 (.tup [V.int 0])) t2 (.lst [V.int 0, V.int 0])) t2 = some (.lst [V.int 0, V.int 0]) := upd_same
      generalize upd (upd H1 t1 (.tup [V.int 0])) t2 (.lst [V.int 0, V.int 0]) = H2 at e1 e2 s2 hl ⊢
      generalize eL : ([V.non, V.bl true, V.int (-1), V.str "0", V.ref t1, V.int 60, V.int (many : Int), V.int 1, V.ref t2] : List V) = us
      have sl := same_upd (o := .lst us) hl
      have D2 := (D1.same s2).same sl
      have lus : us.length = 9 := by rw [← eL]; rfl
      refine ⟨d, .ref l, _, rfl, D2, (by show _ ≤ 1000000000000; omega), .inl ⟨l, us, rfl, (D1.same s2).new hl, upd_same, by omega, by omega, fun j x H3 hx D3 dn3 => ?_⟩⟩
      have dn : Do d H1 H3 := (Do.same (s2.trans sl)).trans dn3
      have k3 := Kp.of_do dn3
      have ao : AO K d H3 x := by
        have hm := List.mem_of_getElem? hx
        rw [← eL] at hm
        simp only [List.mem_cons, List.not_mem_nil, or_false] at hm
        rcases hm with rfl | rfl | rfl | rfl | rfl | rfl | rfl | rfl | rfl
        · exact ao_smp (.inl rfl) (.inl rfl)
        · exact ao_smp (.inr (.inl ⟨_, rfl⟩)) (.inr (.inl ⟨_, rfl⟩))
        · exact ao_smp (iO _ _) (.inr (.inr (.inl ⟨_, rfl⟩)))
        · exact ao_smp (.inr (.inr (.inr (.inl rfl)))) (.inr (.inr (.inr (.inl rfl))))
        · have h := k3.tup D2 (sl _ _ e1)
          exact ⟨.inr (.inr (.inr (.inr (.inl ⟨t1, rfl, h⟩)))), wk_pair h (all1 (iO _ _)), .inr ⟨t1, _, rfl, SqT.of h, by show 1 ≤ 200; decide, all1 (.inl (.inr (.inr (.inl ⟨_, rfl⟩))))⟩⟩
        · exact ao_smp (iO _ _) (.inr (.inr (.inl ⟨_, rfl⟩)))
        · exact ao_smp (iO _ _) (.inr (.inr (.inl ⟨_, rfl⟩)))
        · exact ao_smp (iO _ _) (.inr (.inr (.inl ⟨_, rfl⟩)))
        · have h := k3.lst n2d (sl _ _ e2)
          exact ao_smp (.inr (.inr (.inr (.inr (.inr ⟨t2, rfl, n2d, h⟩))))) (.inr (.inr (.inr (.inr ⟨t2, _, rfl, n2d, h⟩))))
      exact ⟨x, rfl, ao, (Kp.of_do dn).tup D1 ha1, (Kp.of_do dn).plc D1 pl1, D3, dn1.trans dn⟩
    rintro _ H2 ⟨odd, rfl, ao, ha2, pl2, D2, dn2⟩
    have wkz := plc_wk (d := d) pl2
    -- turned about
    refine ⟨.int sort, rfl, rfl, _, rfl, ?_⟩
    cases decide (V.int sort = V.int 0) with
    | true =>
      refine iteT ⟨.ref a, rfl, a, zs, rfl, SqT.of ha2, fun p hp => ?_⟩
      have sp := same_upd (o := .tup zs.reverse) hp
      have Dp := D2.same sp
      exact q _ _ (.inr ⟨p, _, rfl, SqT.of upd_same, by rw [List.length_reverse]; omega, fun y hy => (wkz y (List.mem_reverse.mp hy)).kp (.same sp) D2⟩) (Dp.le (by omega)) (dn2.trans (Do.same sp))
    | false =>
      refine iteF ⟨.int sort, rfl, rfl, _, rfl, ?_⟩
      cases decide (V.int sort = V.int 1) with
      | true =>
        refine iteT ⟨.ref a, rfl, a, zs, rfl, .inr (SqT.of ha2), fun l hl => ?_⟩
        have sl := same_upd (o := .lst zs) hl
        exact q _ _ (.inl (.inr (.inr (.inr (.inr ⟨l, zs, rfl, D2.new hl, upd_same⟩))))) ((D2.same sl).le (by omega)) (dn2.trans (Do.same sl))
      | false =>
        refine iteF ⟨.int sort, rfl, rfl, _, rfl, ?_⟩
        -- one more, or less
        have few : ∀ (R : VK), (∀ x H', RdK K d H' x → Du H' d (n + 4) → Do d H H' → R x H') → ∀ (l1 : Addr) H7 (us : List V), Same H2 H7 → H7 l1 = none → (∀ y ∈ us, RdK K d H7 y) → us.length = 5 → spPk K [.ref d, .ref l1] (upd H7 l1 (.lst us)) R E0 := fun R hR l1 H7 us s7 hl1 hus l5 => by
          have sl := same_upd (o := .lst us) hl1
          have D7 := (D2.same s7).same sl
          refine ⟨d, .ref l1, _, rfl, D7, (by show _ ≤ 1000000000000; omega), .inl ⟨l1, us, rfl, (D2.same s7).new hl1, upd_same, by omega, by omega, fun j x H8 hx D8 dn8 => ?_⟩⟩
          exact hR x H8 (((hus x (List.mem_of_getElem? hx)).kp (.same sl) (D2.same s7)).kp (.of_do dn8) D7) D8 (dn2.trans ((Do.same (s7.trans sl)).trans dn8))
        cases decide (V.int sort = V.int 2) with
        | true =>
          refine iteT (iteT ?_)
          refine ⟨.ref d, rfl, .ref a, rfl, by show 2 ≤ sizeLine; decide, fun t1 ht1 => ⟨by show 1 ≤ sizeLine; decide, fun t2 ht2 => ?_⟩⟩
          have sA := (same_upd (o := .tup [V.int 0, V.int 0]) ht1).trans (same_upd (o := .tup [V.ref t1]) ht2)
          have ht1' : (upd (upd H2 t1 (.tup [V.int 0, V.int 0])) t2 (.tup [V.ref t1])) t1 = some (.tup [V.int 0, V.int 0]) := same_upd ht2 _ _ upd_same
          have ht2' : (upd (upd H2 t1 (.tup [V.int 0, V.int 0])) t2 (.tup [V.ref t1])) t2 = some (.tup [V.ref t1]) := upd_same
          generalize upd (upd H2 t1 (.tup [V.int 0, V.int 0])) t2 (.tup [V.ref t1]) = HA at sA ht1' ht2' ⊢
          refine cat_any (sA _ _ ha2) ht2' (Nat.le_of_lt (small1000 (by show zs.length + 1 ≤ 1000; omega))) fun z1 HB sB hz1 => ?_
          have s2B := sA.trans sB
          refine ⟨.ref a, rfl, odd, rfl, by show 1 ≤ sizeLine; decide, fun t3 ht3 => ?_⟩
          have sC := same_upd (o := .tup [odd]) ht3
          have ht3' : (upd HB t3 (.tup [odd])) t3 = some (.tup [odd]) := upd_same
          generalize upd HB t3 (.tup [odd]) = HC at sC ht3' ⊢
          have s2C := s2B.trans sC
          refine cat_any (s2C _ _ ha2) ht3' (Nat.le_of_lt (small1000 (by show zs.length + 1 ≤ 1000; omega))) fun z2 HD sD hz2 => ?_
          have s2D := s2C.trans sD
          refine ⟨.ref a, rfl, .ref a, rfl, 1, rfl, sl_any (s2D _ _ ha2) fun z3 HE sE hz3 => ?_⟩
          have s2E := s2D.trans sE
          have l3 := cutV_len zs none (some 1)
          refine cat_any (s2E _ _ ha2) hz3 (Nat.le_of_lt (small1000 (by omega))) fun z4 HF sF hz4 => ?_
          have s2F := s2E.trans sF
          refine ⟨.ref a, rfl, 1, rfl, -1, rfl, sl_any (s2F _ _ ha2) fun z5 HG sG hz5 => ?_⟩
          have s2G := s2F.trans sG
          have l5 := cutV_len zs none (some (-1))
          refine ⟨odd, rfl, by show 5 ≤ sizeLine; decide, fun l1 hl1 => few _ (fun x H' r D' dn => q x H' r D' dn) l1 HG _ s2G hl1 (fun y hy => ?_) rfl⟩
          have wkG : ∀ y ∈ zs, WK K d HG y := fun y hy => (wkz y hy).kp (.same s2G) D2
          have aoG := ao.kp (.same s2G) D2
          have sBG := ((((sC.trans sD).trans sE).trans sF).trans sG)
          have sDG := ((sE.trans sF).trans sG)
          simp only [List.mem_cons, List.not_mem_nil, or_false] at hy
          rcases hy with rfl | rfl | rfl | rfl | rfl
          · exact .inr ⟨z1, _, rfl, SqT.of (sBG _ _ hz1), by rw [List.length_append]; show zs.length + 1 ≤ 200; omega, all_app wkG (all1 (wk_pair (sBG _ _ (sB _ _ ht1')) (all2 (iO _ _) (iO _ _))))⟩
          · exact .inr ⟨z2, _, rfl, SqT.of (sDG _ _ hz2), by rw [List.length_append]; show zs.length + 1 ≤ 200; omega, all_app wkG (all1 aoG.w)⟩
          · exact .inr ⟨z4, _, rfl, SqT.of (sG _ _ hz4), by rw [List.length_append]; omega, all_app wkG fun y hy => wkG y (cutV_mem hy)⟩
          · exact .inr ⟨z5, _, rfl, SqT.of hz5, by omega, fun y hy => wkG y (cutV_mem hy)⟩
          · exact aoG.r
        | false =>
          refine iteF ⟨.int at1, rfl, .ref a, rfl, a, zs, rfl, .inr (SqT.of ha2), rfl, _, rfl, ?_⟩
          by_cases hend : at1 = zs.length
          · refine iteY (decide_eq_true (by rw [hend])) ?_
            refine ⟨.ref d, rfl, .ref a, rfl, by show 2 ≤ sizeLine; decide, fun t1 ht1 => ⟨by show 1 ≤ sizeLine; decide, fun t2 ht2 => ?_⟩⟩
            have sA := (same_upd (o := .tup [V.int 0, V.int 0]) ht1).trans (same_upd (o := .tup [V.ref t1]) ht2)
            have ht1' : (upd (upd H2 t1 (.tup [V.int 0, V.int 0])) t2 (.tup [V.ref t1])) t1 = some (.tup [V.int 0, V.int 0]) := same_upd ht2 _ _ upd_same
            have ht2' : (upd (upd H2 t1 (.tup [V.int 0, V.int 0])) t2 (.tup [V.ref t1])) t2 = some (.tup [V.ref t1]) := upd_same
            generalize upd (upd H2 t1 (.tup [V.int 0, V.int 0])) t2 (.tup [V.ref t1]) = HA at sA ht1' ht2' ⊢
            refine cat_any (sA _ _ ha2) ht2' (Nat.le_of_lt (small1000 (by show zs.length + 1 ≤ 1000; omega))) fun z1 HB sB hz1 => ?_
            have s2B := sA.trans sB
            refine ⟨.ref a, rfl, odd, rfl, by show 1 ≤ sizeLine; decide, fun t3 ht3 => ?_⟩
            have sC := same_upd (o := .tup [odd]) ht3
            have ht3' : (upd HB t3 (.tup [odd])) t3 = some (.tup [odd]) := upd_same
            generalize upd HB t3 (.tup [odd]) = HC at sC ht3' ⊢
            have s2C := s2B.trans sC
            refine cat_any (s2C _ _ ha2) ht3' (Nat.le_of_lt (small1000 (by show zs.length + 1 ≤ 1000; omega))) fun z2 HD sD hz2 => ?_
            have s2D := s2C.trans sD
            refine ⟨.ref a, rfl, .ref a, rfl, 1, rfl, sl_any (s2D _ _ ha2) fun z3 HE sE hz3 => ?_⟩
            have s2E := s2D.trans sE
            have l3 := cutV_len zs none (some 1)
            refine cat_any (s2E _ _ ha2) hz3 (Nat.le_of_lt (small1000 (by omega))) fun z4 HF sF hz4 => ?_
            have s2F := s2E.trans sF
            refine ⟨.ref a, rfl, 1, rfl, -1, rfl, sl_any (s2F _ _ ha2) fun z5 HG sG hz5 => ?_⟩
            have s2G := s2F.trans sG
            have l5 := cutV_len zs none (some (-1))
            refine ⟨odd, rfl, by show 5 ≤ sizeLine; decide, fun l1 hl1 => few _ (fun x H' r D' dn => q x H' r D' dn) l1 HG _ s2G hl1 (fun y hy => ?_) rfl⟩
            have wkG : ∀ y ∈ zs, WK K d HG y := fun y hy => (wkz y hy).kp (.same s2G) D2
            have aoG := ao.kp (.same s2G) D2
            have sBG := ((((sC.trans sD).trans sE).trans sF).trans sG)
            have sDG := ((sE.trans sF).trans sG)
            simp only [List.mem_cons, List.not_mem_nil, or_false] at hy
            rcases hy with rfl | rfl | rfl | rfl | rfl
            · exact .inr ⟨z1, _, rfl, SqT.of (sBG _ _ hz1), by rw [List.length_append]; show zs.length + 1 ≤ 200; omega, all_app wkG (all1 (wk_pair (sBG _ _ (sB _ _ ht1')) (all2 (iO _ _) (iO _ _))))⟩
            · exact .inr ⟨z2, _, rfl, SqT.of (sDG _ _ hz2), by rw [List.length_append]; show zs.length + 1 ≤ 200; omega, all_app wkG (all1 aoG.w)⟩
            · exact .inr ⟨z4, _, rfl, SqT.of (sG _ _ hz4), by rw [List.length_append]; omega, all_app wkG fun y hy => wkG y (cutV_mem hy)⟩
            · exact .inr ⟨z5, _, rfl, SqT.of hz5, by omega, fun y hy => wkG y (cutV_mem hy)⟩
            · exact aoG.r
          refine iteE (decide_eq_false fun e => hend (by have := V.int.inj e; omega)) ?_
          have ep : ws[at1]? = some (ws[at1]'(by omega)) := List.getElem?_eq_getElem (by omega)
          generalize ws[at1]'(by omega) = p at ep
          have ez : zs[at1]? = some (zs[at1]'(by omega)) := List.getElem?_eq_getElem (by omega)
          obtain ⟨tp, etp, htp⟩ := pl2.at_ at1 _ p ez ep
          rw [etp] at ez
          refine ⟨.ref a, rfl, .int at1, rfl, a, zs, (at1 : Int), .ref tp, rfl, rfl, SqT.of ha2, atI_nat ez, tp, _, rfl, htp, rfl, _, _, rfl, _, _, rfl, rfl, ?_⟩
          -- windows that are none
          refine ⟨fun σ' H' => ∃ (l : Addr) (us : List V), σ' = [some (.ref d), some (.ref a), some (.int many), some (.int at1), some (.int sort), some odd, some (.int p.1), some (.int p.2), some (.ref l)] ∧ Same H2 H' ∧ H' l = some (.lst us) ∧ us.length = 5 ∧ ∀ y ∈ us, WK K d H' y, ?_, ?_⟩
          · refine ⟨odd, rfl, .int p.2, rfl, by show 2 ≤ sizeLine; decide, fun t1 ht1 => ⟨.int p.1, rfl, odd, rfl, by show 2 ≤ sizeLine; decide, fun t2 ht2 => ⟨.int p.1, rfl, p.1, 1, rfl, rfl, .int p.2, rfl, by show 2 ≤ sizeLine; decide, fun t3 ht3 => ⟨.int p.1, rfl, p.1, 1, rfl, rfl, .int p.2, rfl, by show 2 ≤ sizeLine; decide, fun t4 ht4 => ⟨.int p.1, rfl, .int p.2, rfl, by show 3 ≤ sizeLine; decide, fun t5 ht5 => ⟨by show 5 ≤ sizeLine; decide, fun l hl => ?_⟩⟩⟩⟩⟩⟩
            have s1 := same_upd (o := .tup [odd, V.int (p.2 : Nat)]) ht1
            have s2 := same_upd (o := .tup [V.int (p.1 : Nat), odd]) ht2
            have s3 := same_upd (o := .tup [V.int ((p.1 : Int) + 1), V.int (p.2 : Nat)]) ht3
            have s4 := same_upd (o := .tup [V.int ((p.1 : Int) - 1), V.int (p.2 : Nat)]) ht4
            have s5 := same_upd (o := .tup [V.int (p.1 : Nat), V.int (p.2 : Nat), V.int 0]) ht5
            have s6 := same_upd (o := .lst [V.ref t1, V.ref t2, V.ref t3, V.ref t4, V.ref t5]) hl
            have h1 := s6 _ _ (s5 _ _ (s4 _ _ (s3 _ _ (s2 _ _ (upd_same (H := H2) (a := t1) (o := .tup [odd, V.int (p.2 : Nat)]))))))
            have h2 := s6 _ _ (s5 _ _ (s4 _ _ (s3 _ _ (upd_same (H := upd H2 t1 (.tup [odd, V.int (p.2 : Nat)])) (a := t2) (o := .tup [V.int (p.1 : Nat), odd])))))
            have h3 := s6 _ _ (s5 _ _ (s4 _ _ (upd_same (H := upd (upd H2 t1 (.tup [odd, V.int (p.2 : Nat)])) t2 (.tup [V.int (p.1 : Nat), odd])) (a := t3) (o := .tup [V.int ((p.1 : Int) + 1), V.int (p.2 : Nat)]))))
            have h4 := s6 _ _ (s5 _ _ (upd_same (H := upd (upd (upd H2 t1 (.tup [odd, V.int (p.2 : Nat)])) t2 (.tup [V.int (p.1 : Nat), odd])) t3 (.tup [V.int ((p.1 : Int) + 1), V.int (p.2 : Nat)])) (a := t4) (o := .tup [V.int ((p.1 : Int) - 1), V.int (p.2 : Nat)])))
            have h5 := s6 _ _ (upd_same (H := upd (upd (upd (upd H2 t1 (.tup [odd, V.int (p.2 : Nat)])) t2 (.tup [V.int (p.1 : Nat), odd])) t3 (.tup [V.int ((p.1 : Int) + 1), V.int (p.2 : Nat)])) t4 (.tup [V.int ((p.1 : Int) - 1), V.int (p.2 : Nat)])) (a := t5) (o := .tup [V.int (p.1 : Nat), V.int (p.2 : Nat), V.int 0]))
            have sm := ((((s1.trans s2).trans s3).trans s4).trans s5).trans s6
            have aoG := ao.kp (.same sm) D2
            refine ⟨l, _, rfl, sm, upd_same, rfl, fun y hy => ?_⟩
            simp only [List.mem_cons, List.not_mem_nil, or_false] at hy
            rcases hy with rfl | rfl | rfl | rfl | rfl
            · exact wk_pair h1 (all2 aoG.o (iO _ _))
            · exact wk_pair h2 (all2 (iO _ _) aoG.o)
            · exact wk_pair h3 (all2 (iO _ _) (iO _ _))
            · exact wk_pair h4 (all2 (iO _ _) (iO _ _))
            · refine wk_pair h5 fun z hz => ?_
              simp only [List.mem_cons, List.not_mem_nil, or_false] at hz
              rcases hz with rfl | rfl | rfl <;> exact iO _ _
          rintro _ H3 ⟨l, us, rfl, s3, hl, l5, wus⟩
          have D3 := D2.same s3
          refine ⟨fun σ' H' => ∃ (l : Addr) (us : List V), σ' = [some (.ref d), some (.ref a), some (.int many), some (.int at1), some (.int sort), some odd, some (.int p.1), some (.int p.2), some (.ref l)] ∧ Same H2 H' ∧ l ≠ d ∧ H' l = some (.lst us) ∧ us.length = 8 ∧ ∀ y ∈ us, WK K d H' y, ?_, ?_⟩
          · refine ⟨.ref l, rfl, .int p.1, rfl, .int p.2, rfl, by show 2 ≤ sizeLine; decide, fun t6 ht6 => ⟨.int p.1, rfl, .int p.2, rfl, p.2, 1, rfl, rfl, .int many, rfl, _, many, rfl, rfl, by show (0 : Int) < many; omega, by show 2 ≤ sizeLine; decide, fun t7 ht7 => ⟨odd, rfl, by show 3 ≤ sizeLine; decide, fun l2 hl2 => ?_⟩⟩⟩
            have s6 := same_upd (o := .lst [V.int (p.1 : Nat), V.int (p.2 : Nat)]) ht6
            have n6 := D3.new ht6
            have h6 := upd_same (H := H3) (a := t6) (o := .lst [V.int (p.1 : Nat), V.int (p.2 : Nat)])
            generalize upd H3 t6 (.lst [V.int (p.1 : Nat), V.int (p.2 : Nat)]) = H6 at s6 h6 ht7 hl2 ⊢
            have s7 := same_upd (o := .tup [V.int (p.1 : Nat), V.int (((p.2 : Int) + 1) % (many : Int))]) ht7
            have h7 := upd_same (H := H6) (a := t7) (o := .tup [V.int (p.1 : Nat), V.int (((p.2 : Int) + 1) % (many : Int))])
            have s8 := same_upd (o := .lst [V.ref t6, V.ref t7, odd]) hl2
            have h8 := upd_same (H := upd H6 t7 (.tup [V.int (p.1 : Nat), V.int (((p.2 : Int) + 1) % (many : Int))])) (a := l2) (o := .lst [V.ref t6, V.ref t7, odd])
            have s68 := s7.trans s8
            have s38 := s6.trans s68
            refine ⟨l, l2, _, _, rfl, rfl, s38 _ _ hl, h8, by rw [l5]; show 8 ≤ sizeLine; decide, fun l3 hl3 => ?_⟩
            have s9 := same_upd (o := .lst (us ++ [V.ref t6, V.ref t7, odd])) hl3
            have s39 := s38.trans s9
            have s29 := s3.trans s39
            have aoG := ao.kp (.same s29) D2
            refine ⟨l3, _, rfl, s29, (D3.same s38).new hl3, upd_same, by rw [List.length_append, l5]; rfl, all_app (fun y hy => (wus y hy).kp (.same s39) D3) fun y hy => ?_⟩
            simp only [List.mem_cons, List.not_mem_nil, or_false] at hy
            rcases hy with rfl | rfl | rfl
            · exact .inl (.inr (.inr (.inr (.inr ⟨t6, _, rfl, n6, s9 _ _ (s68 _ _ h6)⟩))))
            · exact wk_pair (s9 _ _ (s8 _ _ h7)) (all2 (iO _ _) (iO _ _))
            · exact aoG.w
          rintro _ H4 ⟨l, us, rfl, s4, nld, hl, l8, wus⟩
          have D4 := D2.same s4
          refine ⟨.ref a, rfl, .int at1, rfl, at1, rfl, sl_any (s4 _ _ ha2) fun z1 HA sA hz1 => ?_⟩
          have DA := D4.same sA
          refine ⟨.ref l, rfl, .ref d, rfl, d, 8, _, rfl, DA, (by show _ ≤ 1000000000000; omega), by decide, by decide, fun m HB m0 m1 DB dnB => ?_⟩
          obtain ⟨m, rfl⟩ := Int.eq_ofNat_of_zero_le m0
          have em : us[m]? = some (us[m]'(by omega)) := List.getElem?_eq_getElem (by omega)
          have wy := wus _ (List.getElem_mem (show m < us.length by omega))
          generalize us[m]'(by omega) = y at em wy
          have kB := Kp.of_do dnB
          have d4B : Do d H4 HB := (Do.same sA).trans dnB
          have haB : HB a = some (.tup zs) := (Kp.of_do d4B).tup D4 (s4 _ _ ha2)
          have wyB := (wy.kp (.same sA) D4).kp kB DA
          have wkB : ∀ y ∈ zs, WK K d HB y := fun y hy => ((wkz y hy).kp (.same s4) D2).kp (.of_do d4B) D4
          have dnT : Do d H HB := dn2.trans ((Do.same s4).trans d4B)
          refine ⟨l, us, (m : Int), y, rfl, rfl, SqL.of (dnB _ _ (sA _ _ hl) nld), atI_nat em, by show 1 ≤ sizeLine; decide, fun t ht => ?_⟩
          have sC := same_upd (o := .tup [y]) ht
          have l1 := cutV_len zs none (some (at1 : Int))
          refine cat_any (sC _ _ (kB.tup DA hz1)) upd_same (Nat.le_of_lt (small1000 (by show _ + 1 ≤ 1000; omega))) fun z2 HD sD hz2 => ?_
          have sBD := sC.trans sD
          refine ⟨.ref a, rfl, .int at1, rfl, at1, 1, rfl, rfl, (at1 : Int) + 1, rfl, ?_⟩
          dsimp only [tNoPart]
          refine sl_any (sBD _ _ haB) fun z3 HE sE hz3 => ?_
          have l3 := cutV_len zs (some ((at1 : Int) + 1)) none
          refine cat_any (sE _ _ hz2) hz3 (Nat.le_of_lt (small1000 (by rw [List.length_append]; show _ + 1 + _ ≤ 1000; omega))) fun z4 HF sF hz4 => ?_
          have sBF := (sBD.trans sE).trans sF
          refine q _ HF (.inr ⟨z4, _, rfl, SqT.of hz4, by rw [List.length_append, List.length_append]; show _ + 1 + _ ≤ 200; omega, all_app (all_app (fun y hy => (wkB y (cutV_mem hy)).kp (.same sBF) DB) (all1 (wyB.kp (.same sBF) DB))) fun y hy => (wkB y (cutV_mem hy)).kp (.same sBF) DB⟩) ((DB.same sBF).le (by omega)) (dnT.trans (Do.same sBF))
end
end Dt
namespace L2X
open PySem PySem.Spec PyProof.Rows L2
theorem pi_listK {X : Cx} {K : PySem.W.Frag} {tg l : Expr} {tl : TE} (hK : X.K = K) (hl : PE X l tl) : PI X tg l (iList K tl) := by
  subst hK
  exact pi_list hl
end L2X
namespace Dt
open PySem PySem.Spec PyProof.Rows L2 L2X LamX
open SX (S)
theorem or_by {K : PySem.W.Frag} {ta tb : TE} {σ : L2.St} {H : Hp} {Q : VK} {a : Addr} {ns : List Int} (hta : ∀ R : VK, R (.ref a) H → ta σ H R) (hS : SqL K H a (ns.map V.int)) (hl : ns.length ≤ 63)
    (hb : ∀ R : VK, (∀ l, H l = none → R (.ref l) (upd H l (.lst [V.int 5]))) → tb σ H R) (q : ∀ (H1 : Hp) (l0 : Addr) (ms : List Int), Same H H1 → SqL K H1 l0 (ms.map V.int) → ms.length ≤ 63 → ms ≠ [] → Q (.ref l0) H1) : tOrT K ta tb σ H Q := by
  refine hta _ ⟨!(ns.map V.int).isEmpty, .inl ⟨_, hS, rfl⟩, ?_⟩
  cases ns with
  | nil => exact iteF (hb _ fun l hl => q _ l [5] (same_upd hl) (SqL.of upd_same) (by decide) (by simp))
  | cons z zs => exact iteT (q H a (z :: zs) (Same.refl H) hS hl (by simp))
theorem cutV_to (xs : List V) (n : Nat) : cutV xs none (some (n : Int)) = xs.take n := by
  unfold cutV
  rw [HT.sIx_nat]
  show (xs.drop 0).take (min n xs.length - 0) = _
  rw [List.drop_zero, Nat.sub_zero]
  by_cases h : n ≤ xs.length
  · rw [Nat.min_eq_left h]
  · rw [Nat.min_eq_right (by omega), List.take_length, List.take_of_length_le (by omega)]
/-! ### what stays -/
/-- all but d and the tables of code stays -/
theorem Kp.ext {d : Addr} {H H' : Hp} (s : ExtN H H') : Kp d H H' := fun b o e _ n => s b o e n
theorem Kp.shs {d : Addr} {H H' : Hp} {n : Nat} {xs : List V} {ss : List Sh} (k : Kp d H H') (D : Du H d n) (h : Shs H xs ss) : Shs H' xs ss :=
  ⟨h.len, fun i x s a b => let ⟨t, p, e, h1, h2⟩ := h.at_ i x s a b; ⟨t, p, e, k.tup D h1, k.tup D h2⟩⟩
theorem Kp.alp {C d o : Addr} {H H' : Hp} {n high : Nat} {ss : List Sh} (k : Kp d H H') (D : Du H d n) (h : AlpG C H o high ss) : AlpG C H' o high ss := by
  obtain ⟨⟨dx, t, xs, h1, h2, h3⟩, b, c, e⟩ := h
  refine ⟨⟨dx, t, xs, ?_, k.tup D h2, k.shs D h3⟩, b, c, e⟩
  obtain ⟨_, _, _, hd, _⟩ := D
  exact k _ _ h1 (ne_of h1 hd (by intro z; cases z)) fun _ z => nomatch z
theorem tabs_do {T : List (Addr × Str)} {H H' : Hp} {d : Addr} {n : Nat} (h : Tabs T H) (D : Du H d n) (s : Do d H H') : Tabs T H' := by
  obtain ⟨_, _, _, hd, _⟩ := D
  intro p hp
  obtain ⟨ps, e1, e2, e3⟩ := h p hp
  refine ⟨ps, s _ _ e1 (ne_of e1 hd (by intro z; cases z)), e2, fun pos cv hc => ?_⟩
  obtain ⟨c0, e4, e5⟩ := e3 pos cv hc
  exact ⟨c0, e4, s _ _ e5 (ne_of e5 hd (by intro z; unfold LamX.CodeO at z; cases z))⟩
theorem Du.ext {H H' : Hp} {d : Addr} {n : Nat} (D : Du H d n) (s : ExtN H H') : Du H' d n := by
  obtain ⟨a, b, t, h, r⟩ := D
  exact ⟨a, b, t, s _ _ h (fun _ z => nomatch z), r⟩
/-- what stays while one cell is gone through, the alphabet made and the way drawn -/
structure Lt (K : PySem.W.Frag) (CA : Addr) (TL : List (Addr × Str)) (d lc ls o pw po : Addr) (cs xs zs : List V) (high : Nat) (ss : List Sh) (ws : List (Nat × Nat)) (rs : List (List Nat)) (n : Nat) (H : Hp) : Prop where
  D : Du H d n
  T : Tabs TL H
  hl : H lc = some (.lst cs)
  nl : lc ≠ d
  hs : H ls = some (.lst xs)
  ns : ls ≠ d
  S : Shs H xs ss
  al : AlpG CA H o high ss
  hw : H pw = some (.tup zs)
  ho : H po = some (.tup (rs.map rv))
  pl : Plc K H zs ws
theorem Lt.kp {K : PySem.W.Frag} {CA : Addr} {TL : List (Addr × Str)} {d lc ls o pw po : Addr} {cs xs zs : List V} {high : Nat} {ss : List Sh} {ws : List (Nat × Nat)} {rs : List (List Nat)} {n m : Nat} {H H' : Hp} (L : Lt K CA TL d lc ls o pw po cs xs zs high ss ws rs n H) (k : Kp d H H') (D' : Du H' d m) (T' : Tabs TL H') : Lt K CA TL d lc ls o pw po cs xs zs high ss ws rs m H' :=
  ⟨D', T', k.lst L.nl L.hl, L.nl, k.lst L.ns L.hs, L.ns, k.shs L.D L.S, k.alp L.D L.al, k.tup L.D L.hw, k.tup L.D L.ho, k.plc L.D L.pl⟩
theorem Lt.same {K : PySem.W.Frag} {CA : Addr} {TL : List (Addr × Str)} {d lc ls o pw po : Addr} {cs xs zs : List V} {high : Nat} {ss : List Sh} {ws : List (Nat × Nat)} {rs : List (List Nat)} {n : Nat} {H H' : Hp} (L : Lt K CA TL d lc ls o pw po cs xs zs high ss ws rs n H) (s : Same H H') : Lt K CA TL d lc ls o pw po cs xs zs high ss ws rs n H' := L.kp (.same s) (L.D.same s) (L.T.ext s)
theorem Lt.do' {K : PySem.W.Frag} {CA : Addr} {TL : List (Addr × Str)} {d lc ls o pw po : Addr} {cs xs zs : List V} {high : Nat} {ss : List Sh} {ws : List (Nat × Nat)} {rs : List (List Nat)} {n m : Nat} {H H' : Hp} (L : Lt K CA TL d lc ls o pw po cs xs zs high ss ws rs n H) (s : Do d H H') (D' : Du H' d m) : Lt K CA TL d lc ls o pw po cs xs zs high ss ws rs m H' := L.kp (.of_do s) D' (tabs_do L.T L.D s)
theorem Lt.ex {K : PySem.W.Frag} {CA : Addr} {TL : List (Addr × Str)} {d lc ls o pw po : Addr} {cs xs zs : List V} {high : Nat} {ss : List Sh} {ws : List (Nat × Nat)} {rs : List (List Nat)} {n : Nat} {H H' : Hp} (L : Lt K CA TL d lc ls o pw po cs xs zs high ss ws rs n H) (s : ExtN H H') (T' : Tabs TL H') : Lt K CA TL d lc ls o pw po cs xs zs high ss ws rs n H' := L.kp (.ext s) (L.D.ext s) T'
theorem Lt.le {K : PySem.W.Frag} {CA : Addr} {TL : List (Addr × Str)} {d lc ls o pw po : Addr} {cs xs zs : List V} {high : Nat} {ss : List Sh} {ws : List (Nat × Nat)} {rs : List (List Nat)} {n m : Nat} {H : Hp} (L : Lt K CA TL d lc ls o pw po cs xs zs high ss ws rs n H) (h : n ≤ m) : Lt K CA TL d lc ls o pw po cs xs zs high ss ws rs m H := { L with D := L.D.le h }
theorem no_ne (x : Str) : (!decide (V.str x = V.str x)) = false := by
  rw [decide_eq_true rfl]
  rfl
def refD (j : Nat) : PyData := .tuple [.str "refused", .list [.int j]]
theorem GoodR.kp {K : PySem.W.Frag} {H H' : Hp} {d : Addr} {n : Nat} {ss : List Sh} {cols : Nat} {x : V} {ws : List (Nat × Nat)} (h : GoodR K H ss cols x ws) (k : Kp d H H') (D : Du H d n) : GoodR K H' ss cols x ws := by
  obtain ⟨a, xs, q, ht, pl, wk⟩ := h
  exact ⟨a, xs, q, k.sqT D ht, k.plc D pl, wk⟩
theorem BadK.kp {K : PySem.W.Frag} {H H' : Hp} {d : Addr} {n : Nat} {ss : List Sh} {cols : Nat} {x : V} (h : BadK K d H ss cols x) (k : Kp d H H') (D : Du H d n) : BadK K d H' ss cols x := by
  rcases h with h | ⟨a, xs, ws, y, q, ht, l, pl, wk, hy, b⟩
  · exact .inl (h.kp k)
  · refine .inr ⟨a, xs, ws, y, q, k.sqT D ht, l, k.plc D pl, wk, hy, ?_⟩
    rcases b with h | ⟨t, zs, q, ht, n⟩ | ⟨t, x1, x2, q, ht, o1, o2, w⟩
    · exact .inl (h.kp k)
    · exact .inr (.inl ⟨t, zs, q, k.sqT D ht, n⟩)
    · exact .inr (.inr ⟨t, x1, x2, q, k.sqT D ht, o1.kp k D, o2.kp k D, w⟩)
/-- the thing: a reading or none, by b -/
def TS (K : PySem.W.Frag) (d : Addr) (ss : List Sh) (wide : Nat) (thing : V) (b : Bool) (vs : List (Nat × Nat)) (H : Hp) : Prop := (b = true ∧ GoodR K H ss wide thing vs) ∨ (b = false ∧ BadK K d H ss wide thing)
theorem TS.kp {K : PySem.W.Frag} {H H' : Hp} {d : Addr} {n : Nat} {ss : List Sh} {wide : Nat} {x : V} {b : Bool} {vs : List (Nat × Nat)} (h : TS K d ss wide x b vs H) (k : Kp d H H') (D : Du H d n) : TS K d ss wide x b vs H' :=
  h.imp (fun ⟨e, g⟩ => ⟨e, g.kp k D⟩) fun ⟨e, g⟩ => ⟨e, g.kp k D⟩
def toldD (v : Int) : PyData := .tuple [.str "told", .int v]
def outD (b : Bool) (v : Int) : PyData := if b = true then toldD v else refD 5
/-- what _law_word says, by b -/
def OutV (d : Addr) (H : Hp) (x : V) (b : Bool) (v : Int) : Prop := (b = true ∧ ∃ t, x = .ref t ∧ H t = some (.tup [.str "told", .int v])) ∨ (b = false ∧ ∃ t l, x = .ref t ∧ l ≠ d ∧ H t = some (.tup [.str "refused", .ref l]) ∧ H l = some (.lst [.int 5]))
theorem OutV.kp {d : Addr} {H H' : Hp} {n : Nat} {x : V} {b : Bool} {v : Int} (h : OutV d H x b v) (k : Kp d H H') (D : Du H d n) : OutV d H' x b v := by
  rcases h with ⟨e, t, e2, h⟩ | ⟨e, t, l, e2, nl, h1, h2⟩
  · exact .inl ⟨e, t, e2, k.tup D h⟩
  · exact .inr ⟨e, t, l, e2, nl, k.tup D h1, k.lst nl h2⟩
theorem OutV.dp {K : PySem.W.Frag} {d : Addr} {H : Hp} {x : V} {b : Bool} {v : Int} (h : OutV d H x b v) : Dp K H x (outD b v) := by
  rcases h with ⟨rfl, t, rfl, h⟩ | ⟨rfl, t, l, rfl, _, h1, h2⟩
  · exact .tup (SqT.of h) (.cons (.str _) (.cons (.int _) .nil))
  · exact .tup (SqT.of h1) (.cons (.str _) (.cons (.lst (SqL.of h2) (.cons (.int 5) .nil)) .nil))
theorem OutV.tup {d : Addr} {H : Hp} {x : V} {b : Bool} {v : Int} (h : OutV d H x b v) : ∃ t u, x = .ref t ∧ H t = some (.tup [.str (if b = true then "told" else "refused"), u]) := by
  rcases h with ⟨rfl, t, rfl, h⟩ | ⟨rfl, t, l, rfl, _, h1, h2⟩
  · exact ⟨t, _, rfl, h⟩
  · exact ⟨t, _, rfl, h1⟩
theorem out_sh (b : Bool) (v : Int) : SeqAt.shaped (outD b v) = true := by
  cases b with
  | true =>
    show SeqAt.shaped (toldD v) = true
    have so : PyData.strOk "told" = true := by decide +kernel
    unfold SeqAt.shaped toldD
    rw [Bool.and_eq_true, decide_eq_true_iff]
    refine ⟨by simp [PyData.canLay0, PyData.canLayAll0, so], ?_⟩
    simp [PyData.depth, PyData.depthAll]
  | false =>
    show SeqAt.shaped (refD 5) = true
    decide +kernel
theorem out_eq (b : Bool) (v : Int) : PyData.eqv (outD b v) (outD b v) = true := by
  cases b with
  | true =>
    show PyData.eqv (toldD v) (toldD v) = true
    simp [toldD, PyData.eqv, PyData.eqvAll]
  | false =>
    show PyData.eqv (refD 5) (refD 5) = true
    simp [refD, PyData.eqv, PyData.eqvAll]
theorem misP_self : ∀ rs : List (List Nat), misP rs rs = 0
  | [] => rfl
  | l :: r => by
    have h := misP_self r
    unfold misP at h ⊢
    rw [List.zip_cons_cons, List.map_cons, List.sum_cons, h]
    have e : misZ l l = 0 := by
      unfold misZ
      have key : ∀ m : List Nat, ((m.zip m).filter fun p => decide (p.1 ≠ p.2)).length = 0 := by
        intro m
        induction m with
        | nil => rfl
        | cons a t ih =>
          rw [List.zip_cons_cons, List.filter_cons_of_neg (by simp)]
          exact ih
      exact key l
    rw [e]
    rfl
def OddC (d : Addr) (H : Hp) (x : V) : Prop := (∃ i : Int, x = .int i ∧ (i = 0 ∨ i = 61 ∨ i = -1)) ∨ x = .non ∨ x = .bl true ∨ x = .str "3" ∨ ∃ t, x = .ref t ∧ H t = some (.tup [.int 3])
theorem OddC.kp {d : Addr} {H H' : Hp} {n : Nat} {x : V} (h : OddC d H x) (k : Kp d H H') (D : Du H d n) : OddC d H' x := by
  rcases h with h | h | h | h | ⟨t, e, h⟩
  · exact .inl h
  · exact .inr (.inl h)
  · exact .inr (.inr (.inl h))
  · exact .inr (.inr (.inr (.inl h)))
  · exact .inr (.inr (.inr (.inr ⟨t, e, k.tup D h⟩)))
theorem OddC.kt {K : PySem.W.Frag} {d : Addr} {H : Hp} {x : V} (h : OddC d H x) : Kt K H x := by
  rcases h with ⟨i, rfl, _⟩ | rfl | rfl | rfl | ⟨t, rfl, h⟩
  · exact kt_int _
  · exact ⟨_, .non, rfl⟩
  · exact kt_bl _
  · exact ⟨_, .str _, rfl⟩
  · exact ⟨_, .tup (SqT.of h), rfl⟩
theorem OddC.b {d : Addr} {H : Hp} {x : V} (h : OddC d H x) : betw x 1 60 = false := by
  rcases h with ⟨i, rfl, h⟩ | rfl | rfl | rfl | ⟨t, rfl, h⟩
  · rw [betw_int]
    by_cases a : 1 ≤ i
    · have : ¬ i ≤ 60 := by omega
      rw [decide_eq_false this, Bool.and_false]
    · rw [decide_eq_false a, Bool.false_and]
  all_goals rfl
abbrev sLaw : Stmt := topS 64
abbrev nLaw : List Str := ["script", "k", "cell", "draw", "high", "shapes", "made", "wide", "way", "columns", "line", "other", "turn", "thing", "told", "due", "beyond", "row", "one"]
theorem scLaw : FnScope nLaw ["script"] (defScope sLaw) := ⟨rfl, rfl, rfl, by decide +kernel, rfl, by decide +kernel, by decide +kernel⟩
def noSc : Scope := { kind := .function, names := [], isGenerator := false, isCoroutine := false }
def lamOf : Expr → Scope
  | .Call _ (.Lambda _ _ sc _ :: _) _ _ => sc
  | .Subscript (.Call _ (.Lambda _ _ sc _ :: _) _ _) _ _ => sc
  | _ => noSc
def forB (b : List Stmt) (n : Nat) : List Stmt := match b.getD n (.Pass ⟨0, 0, 0, 0⟩) with
  | .For _ _ c _ _ => c
  | _ => []
def lamSc (n : Nat) : Scope := match n with
  | 0 => (match (forB (forB (defBody sLaw) 0) 10).getD 1 (.Pass ⟨0, 0, 0, 0⟩) with
    | .Assign _ e _ => lamOf e
    | _ => noSc)
  | 1 => (match (forB (forB (defBody sLaw) 0) 10).getD 4 (.Pass ⟨0, 0, 0, 0⟩) with
    | .If (.BoolOp _ [_, .Compare e _ _ _] _) _ _ _ => lamOf e
    | _ => noSc)
  | _ => (match (forB (defBody sLaw) 0).getD 12 (.Pass ⟨0, 0, 0, 0⟩) with
    | .If (.Compare e _ _ _) _ _ _ => lamOf e
    | _ => noSc)
section
variable {P : Program} {w : World} {K : PySem.W.Frag} {mg : Str → Option Value} {base : Heap} {CA CN CL CD fa cc PP : Addr} {cs12 : List Addr} {s : Shared} {H : Hp}
abbrev xLaw (P : Program) (w : World) (K : PySem.W.Frag) (mg : Str → Option Value) (base : Heap) (fa cc : Addr) (s : Shared) (H : Hp) : Cx := (cxOf CX0 P w K mg base nLaw "law" (defScope sLaw) fa (.ref cc) callerA [] s H E0).nox
structure LawFs (P : Program) (w : World) (K : PySem.W.Frag) (mg : Str → Option Value) (base : Heap) (CA CN CL CD : Addr) (cs12 : List Addr) (fI fC : Addr) (fdI fdC : FuncData) : Prop where
  tx : Tx mg
  ta : Tal K mg CA
  en : mg "enumerate" = none
  mi : mg "min" = none
  mka : Mk K CA fI
  GI : FnOk P w K mg base CX0 11 fI fdI ["self", "high", "shapes"] (spAI CA)
  bI : Binds K fdI ["self", "high", "shapes"] []
  B : Pm P w K mg base CX0 12 "_law_begun" ["cell", "k"] spBg
  N : Pm P w K mg base CX0 12 "_law_next" ["draw", "below"] spNx
  K' : Pm P w K mg base CX0 12 "_law_pick" ["draw", "some"] (spPk K)
  S : Pm P w K mg base CX0 12 "_law_shapes" ["draw", "high", "most", "wide"] spShp
  NR : Pm P w K mg base CX0 12 "_law_near" ["draw", "picture"] spNr
  DV : Pm P w K mg base CX0 12 "_law_drawn_way" ["draw", "shapes", "wide"] (spDV K)
  LS : Pm P w K mg base CX0 12 "_law_set" ["shapes", "high", "wide", "way"] (spLS K)
  LD : Pm P w K mg base CX0 12 "_law_dots" ["shapes", "line", "way"] (spLD K)
  IY : Pm P w K mg base CX0 12 "_law_is_way" ["shapes", "wide", "thing"] (spIy K)
  OW : Pm P w K mg base CX0 12 "_law_otherwise" ["draw", "way", "many"] (spOw K)
  DR : Pm P w K mg base (L2.CX P w) 10 "drawn" ["alphabet", "wide", "reading"] (spDr K CA CN CL)
  CO : Pm P w K mg base (L2.CX P w) 10 "cost" ["alphabet", "line", "reading"] (spCo K CA CN)
  tc : T12 mg CD cs12
  GC : FnOk P w K mg base CX0 10 fC fdC ["e"] (spLC K CD cs12)
  mC : mg "_law_classes" = some (.ref fC)
  kC : PySem.W.keepIn K (.ref fC) = true
  bC : Binds K fdC ["e"] []
  R : Df K mg "_law_word" sLW ["work", "some"]
  k5 : K12 K CD cs12 CN 5
  k7 : K12 K CD cs12 CL 7
theorem law_run {fI fC : Addr} {fdI fdC : FuncData} {dV kV doc pm ct oc : Value} {an od : Option Addr} {osl : Array (Option Value)} {s : Shared} {H : Hp} {a : Addr} {ns : List Int}
    (lk : K.lookup fa = some ⟨oc, od, .func (PySem.W.fnOf "law" "law" (defArgs sLaw) (defBody sLaw) (defScope sLaw) dV kV doc pm an (.ref cc) ct), osl⟩) (hcd : PySem.W.codeIn K (.ref cc) "law" = true)
    (hb : ∀ (s : Shared) (u : Value), BindsTo s (PySem.W.fnOf "law" "law" (defArgs sLaw) (defBody sLaw) (defScope sLaw) dV kV doc pm an (.ref cc) ct) ⟨[u], []⟩ [("script", u)])
    (L : LawFs P w K mg base CA CN CL CD cs12 fI fC fdI fdC) (TB : TabB base mg cc PP) (hr13 : Room 13 callerA) (e0 : Env0 P w K mg base callerA [] s H) (hT : H PP = some (.tbl #[])) (hS : SqL K H a (ns.map V.int)) (hlen : ns.length ≤ 63) :
    codeAny (model P w) callerA (.call (.ref fa) ⟨[.ref a], []⟩) (CR CX0 [] P w H s (fun v _ => v = .bl true) E0) s := by
  refine run_ofS (N := nLaw) (ps := ["script"]) (us := [.ref a]) (vs := [.ref a]) lk hcd scLaw hr13 e0 (hb s (.ref a)) (.cons rfl .nil) rfl fun hr => ?_
  have nd := scLaw.nd
  have hu64 : (callerA.deeper (envOfC "law" (defScope sLaw) s.heap.objs.size fa (.ref cc))).units + 64 < cLine := by
    have := hr.un
    omega
  have T := L.tx
  have en := L.en
  have TA := L.ta
  obtain ⟨fB, fdB, GB, mB, kB, bB⟩ := L.B.ex
  obtain ⟨fN, fdN, GN, mN, kN, bN⟩ := L.N.ex
  obtain ⟨fK, fdK, GK, mK, kK, bK⟩ := L.K'.ex
  obtain ⟨fS, fdS, GS, mS, kS, bS⟩ := L.S.ex
  obtain ⟨fE, fdE, GE, mE, kE, bE⟩ := L.NR.ex
  obtain ⟨fD, fdD, GD, mD, kD, bD⟩ := L.DV.ex
  obtain ⟨fV, fdV, GV, mV, kV', bV⟩ := L.LS.ex
  obtain ⟨fU, fdU, GU, mU, kU, bU⟩ := L.LD.ex
  obtain ⟨fY, fdY, GY, mY, kY, bY⟩ := L.IY.ex
  obtain ⟨fO, fdO, GO, mO, kO, bO⟩ := L.OW.ex
  obtain ⟨fT, fdT, GT, mT, kT, bT⟩ := L.DR.ex
  obtain ⟨fW, fdW, GW, mW, kW, bW⟩ := L.CO.ex
  have GI := L.GI
  have bI := L.bI
  have M := L.mka
  have GC := L.GC
  obtain ⟨fR, fdR, FR, mR, bR⟩ := L.R.ex
  have kR := FR.kp
  obtain ⟨ocR, odR, kVR, docR, pmR, anR, cdR, ctR, oslR, rfl, lkR, hcR⟩ := FR.ex
  have hG : Gives2 (xLaw P w K mg base fa cc s H) 11 nLW "_law_word" (defScope sLW) fR fC cdR (defBody sLW) "work" (lamQ (xLaw P w K mg base fa cc s H)) (TWrd K CD cs12) := word_gives (X := xLaw P w K mg base fa cc s H) (k := 10) L.tc GC L.kC L.bC
  refine ⟨_, PSs.nox (pss_cons (ps_for PassesOwn.never rfl (pi_enumG (by rfl) en (pa_cons (pe_slice sl_list (pe_orT (pv 0) (pe_one (pe_lst (pa_cons pe_int pa_nil)))) po_none (po_some pe_int)) pa_nil)) (pg_tup rfl (pgs_cons (pg_name (i := 1) nd rfl (Or.inl rfl)) (pgs_cons (pg_name (i := 2) nd rfl (Or.inl rfl)) pgs_nil)))
        (C8.pss_cut (ps_set (i := 3) nd rfl (.inl rfl) (pe_call GB hr (by rfl) mB kB bB .nil pass0 (pa_cons (pv 2) (pa_cons (pv 1) pa_nil))))
        (C8.pss_cut (ps_set (i := 4) nd rfl (.inl rfl) (pe_op op_add pe_int (pe_call GN hr (by rfl) mN kN bN .nil pass0 (pa_cons (pv 3) (pa_cons pe_int pa_nil)))))
        (C8.pss_cut (ps_set (i := 5) nd rfl (.inl rfl) (pe_call GS hr (by rfl) mS kS bS .nil pass0 (pa_cons (pv 3) (pa_cons (pv 4) (pa_cons pe_int (pa_cons (pe_op op_add pe_int (pe_call GN hr (by rfl) mN kN bN .nil pass0 (pa_cons (pv 3) (pa_cons pe_int pa_nil)))) pa_nil))))))
        (C8.pss_cut (ps_asg (pe_tup (pa_cons (pe_make M GI hr (by rfl) TA.mC bI .nil pass0 (pa_cons (pv 4) (pa_cons (pv 5) pa_nil))) (pa_cons (pe_ix (r := rIxL K) ix_list (pe_lst (pa_cons pe_int (pa_cons (pe_op op_add pe_int (pe_call GN hr (by rfl) mN kN bN .nil pass0 (pa_cons (pv 3) (pa_cons pe_int pa_nil)))) pa_nil))) (pe_callB (call_min2 rfl) (by rfl) L.mi (by decide +kernel) (pa_cons pe_int (pa_cons (pe_call GN hr (by rfl) mN kN bN .nil pass0 (pa_cons (pv 3) (pa_cons pe_int pa_nil))) pa_nil))) (fun _ _ => rfl)) pa_nil))) (pg_tup rfl (pgs_cons (pg_name (i := 6) nd rfl (Or.inr rfl)) (pgs_cons (pg_name (i := 7) nd rfl (Or.inr rfl)) pgs_nil))))
        (C8.pss_cut (ps_set (i := 8) nd rfl (.inl rfl) (pe_call GD hr (by rfl) mD kD bD .nil pass0 (pa_cons (pv 3) (pa_cons (pv 5) (pa_cons (pv 7) pa_nil)))))
        (C8.pss_cut (ps_set (i := 9) nd rfl (.inr rfl) (pe_call GV hr (by rfl) mV kV' bV .nil pass0 (pa_cons (pv 5) (pa_cons (pv 4) (pa_cons (pv 7) (pa_cons (pv 8) pa_nil))))))
        (C8.pss_cut (ps_set (i := 10) nd rfl (.inl rfl) (pe_callTy call_tuple_of (by rfl) T.tuple (by decide +kernel) (pa_cons (pe_lc (own := [("row", 17)]) (g := gName 17) (tt := tYes) rfl nd (pi_range1 rfl T.range (pa_cons (pv 4) pa_nil)) (blkOk_by (N := nLaw) (sc := defScope sLaw) (by decide +kernel)) (fun _ _ _ _ _ => pg_name (i := 17) nd rfl (Or.inr rfl)) (fun _ _ _ _ _ => pts_nil)
            (fun _ _ _ _ _ => pe_joinK (K := K) rfl pe_str (pe_lc (own := [("one", 18)]) (g := gName 18) (tt := tYes) rfl nd (pi_listK (K := K) rfl (pv 9)) (blkOk_by (N := nLaw) (sc := { kind := .function, names := [(".0", .local), ("row", .cell), ("columns", .cell)], isGenerator := false, isCoroutine := false }) (by decide +kernel)) (fun _ _ _ _ _ => pg_name (i := 18) nd rfl (Or.inl rfl)) (fun _ _ _ _ _ => pts_nil) (fun _ _ _ _ _ => pe_ix ix_str (pv 18) (pv 17) (fun _ _ => rfl))))) pa_nil)))
        (C8.pss_cut (ps_if (PW.pt (pw_or (pt_cmpR (op_neD hu64) (pe_call GT (hr.mono (by decide)) (by rfl) mT kT bT .nil passX0 (pa_cons (pv 6) (pa_cons (pv 7) (pa_cons (pv 8) pa_nil)))) (pv 10) (nomark _)) (pw_or1 (pt_cmpR op_ne (pe_call GW (hr.mono (by decide)) (by rfl) mW kW bW .nil passX0 (pa_cons (pv 6) (pa_cons (pv 10) (pa_cons (pv 8) pa_nil)))) pe_int (nomark _))))) (pss_one (ps_ret pe_bl)) pss_nil)
        (C8.pss_cut (ps_set (i := 11) nd rfl (.inr rfl) (pe_call GE hr (by rfl) mE kE bE .nil pass0 (pa_cons (pv 3) (pa_cons (pe_call GE hr (by rfl) mE kE bE .nil pass0 (pa_cons (pv 3) (pa_cons (pv 10) pa_nil))) pa_nil))))
        (C8.pss_cut (ps_if (pt_cmpR op_ne (pe_call GW (hr.mono (by decide)) (by rfl) mW kW bW .nil passX0 (pa_cons (pv 6) (pa_cons (pv 11) (pa_cons (pv 8) pa_nil)))) (pe_call GU hr (by rfl) mU kU bU .nil pass0 (pa_cons (pv 5) (pa_cons (pv 11) (pa_cons (pv 8) pa_nil)))) (nomark _)) (pss_one (ps_ret pe_bl)) pss_nil)
        (C8.pss_cut (ps_for PassesOwn.never rfl (pi_range1 rfl T.range (pa_cons pe_int pa_nil)) (pg_name (i := 12) nd rfl (.inl rfl))
          (C8.pss_cut (ps_set (i := 13) nd rfl (.inr rfl) (pe_call GO hr (by rfl) mO kO bO .nil pass0 (pa_cons (pv 3) (pa_cons (pv 8) (pa_cons (pe_callB call_len_seq (by rfl) T.len PySem.boot_len (pa_cons (pv 5) pa_nil)) pa_nil)))))
          (C8.pss_cut (ps_set (i := 14) nd rfl (.inl rfl) (pe_lamcall2 (k := 10) (T := [(PP, lamQ (xLaw P w K mg base fa cc s H))]) (TT := TWrd K CD cs12) (by rfl) mR kR (pe_glob (v := .ref fC) (by rfl) L.mC rfl) lkR hcR bR scLW rfl (.inl rfl) hG TB rfl (List.mem_singleton.mpr rfl) (fun p hp _ => by rw [List.mem_singleton.mp hp]) hr (lamS_by (show lamSB (defScope sLaw) (lamSc 0) = true by decide +kernel)) rfl (fun _ _ _ _ _ => rfl) (fun A outer s H E f c hr => (pe_call GW hr (by rfl) mW kW bW .nil (passE (takes_of rfl rfl rfl rfl)) (pa_cons (pv 6) (pa_cons (pv 11) (pa_cons (pv 13) pa_nil)))))))
          (C8.pss_cut (ps_set (i := 15) nd rfl (.inl rfl) (pe_tup (pa_cons pe_str (pa_cons (pe_lst (pa_cons pe_int pa_nil)) pa_nil))))
          (C8.pss_cut (ps_if (pt_val (pe_call GY hr (by rfl) mY kY bY .nil pass0 (pa_cons (pv 5) (pa_cons (pv 7) (pa_cons (pv 13) pa_nil))))) (pss_one (ps_set (i := 15) nd rfl (.inl rfl) (pe_tup (pa_cons pe_str (pa_cons (pe_call GU hr (by rfl) mU kU bU .nil pass0 (pa_cons (pv 5) (pa_cons (pv 11) (pa_cons (pv 13) pa_nil)))) pa_nil))))) pss_nil)
          (pss_one (ps_if (PW.pt (pw_or (pt_cmpR (op_neD hu64) (pv 14) (pv 15) (nomark _)) (pw_or1 (pt_cmpR op_ne (pe_ix (r := rIxT K) ix_tup (pe_lamcall2 (k := 10) (T := [(PP, lamQ (xLaw P w K mg base fa cc s H))]) (TT := TWrd K CD cs12) (by rfl) mR kR (pe_glob (v := .ref fC) (by rfl) L.mC rfl) lkR hcR bR scLW rfl (.inl rfl) hG TB rfl (List.mem_singleton.mpr rfl) (fun p hp _ => by rw [List.mem_singleton.mp hp]) hr (lamS_by (show lamSB (defScope sLaw) (lamSc 1) = true by decide +kernel)) rfl (fun _ _ _ _ _ => rfl) (fun A outer s H E f c hr => (pe_call GT hr (by rfl) mT kT bT .nil (passE (takes_of rfl rfl rfl rfl)) (pa_cons (pv 6) (pa_cons (pv 7) (pa_cons (pv 13) pa_nil)))))) pe_int (fun _ _ => rfl)) (pe_ix (r := rIxT K) ix_tup (pv 15) pe_int (fun _ _ => rfl)) (nomark _))))) (pss_one (ps_ret pe_bl)) pss_nil)))))))
        (C8.pss_cut (ps_set (i := 16) nd rfl (.inr rfl) (pe_call GK hr (by rfl) mK kK bK .nil pass0 (pa_cons (pv 3) (pa_cons (pe_lst (pa_cons pe_int (pa_cons pe_int (pa_cons (pe_un un_neg pe_int) (pa_cons pe_non (pa_cons pe_bl (pa_cons pe_str (pa_cons (pe_tup (pa_cons pe_int pa_nil)) pa_nil)))))))) pa_nil))))
        (pss_one (ps_if (pt_cmpR (op_neD hu64) (pe_lamcall2 (k := 10) (T := [(PP, lamQ (xLaw P w K mg base fa cc s H))]) (TT := TWrd K CD cs12) (by rfl) mR kR (pe_glob (v := .ref fC) (by rfl) L.mC rfl) lkR hcR bR scLW rfl (.inl rfl) hG TB rfl (List.mem_singleton.mpr rfl) (fun p hp _ => by rw [List.mem_singleton.mp hp]) hr (lamS_by (show lamSB (defScope sLaw) (lamSc 2) = true by decide +kernel)) rfl (fun _ _ _ _ _ => rfl) (fun A outer s H E f c hr => (pe_call GT hr (by rfl) mT kT bT .nil (passE (takes_of rfl rfl rfl rfl)) (pa_cons (pv 6) (pa_cons (pv 16) (pa_cons (pe_tup pa_nil) pa_nil)))))) (pe_tup (pa_cons pe_str (pa_cons (pe_lst (pa_cons pe_int pa_nil)) pa_nil))) (nomark _)) (pss_one (ps_ret pe_bl)) pss_nil)))))))))))))))
      (pss_one (ps_ret pe_bl))), ?_⟩
  have hTb : Tabs [(PP, lamQ (xLaw P w K mg base fa cc s H))] H := fun p hp => by
    rw [List.mem_singleton.mp hp]
    exact TabS.nil hT
  generalize hTT : [(PP, lamQ (xLaw P w K mg base fa cc s H))] = TL at hTb ⊢
  refine or_by (a := a) (ns := ns) (fun R r => ⟨.ref a, rfl, r⟩) hS hlen (fun R r => ⟨by show 1 ≤ sizeLine; decide, fun l hl => r l hl⟩) fun H1 l0 ms s1 hq hm _ => ?_
  refine ⟨6, rfl, l0, _, rfl, hq, fun lc hlc => ?_⟩
  have scut : cutV (ms.map V.int) none (some 6) = (ms.take 6).map V.int := by
    rw [List.map_take]
    exact cutV_to _ 6
  have hlc1 : (upd H1 lc (.lst (cutV (ms.map V.int) none (some 6)))) lc = some (.lst ((ms.take 6).map V.int)) := by rw [upd_same, scut]
  have TB' : Tabs TL (upd H1 lc (.lst (cutV (ms.map V.int) none (some 6)))) := (hTb.ext s1).ext (same_upd hlc)
  generalize upd H1 lc (.lst (cutV (ms.map V.int) none (some 6))) = HB at hlc1 TB' ⊢
  generalize hcs : (ms.take 6).map V.int = cs at hlc1
  refine ⟨.lst lc, cs, rfl, SqL.of hlc1, for_enumG (K := K) (A := .lst lc) (xs := cs) (fun i σ H2 => ∃ y1 y2 y3 y4 y5 y6 y7 y8 y9 y10 y11 y12 y13 y14 y15 y16, σ = [some (.ref a), y1, y2, y3, y4, y5, y6, y7, y8, y9, y10, y11, y12, y13, y14, y15, y16, none, none] ∧ H2 lc = some (.lst cs) ∧ Tabs TL H2) ⟨none, none, none, none, none, none, none, none, none, none, none, none, none, none, none, none, rfl, hlc1, TB'⟩ (fun i σ H2 _ z => by
    obtain ⟨_, _, _, _, _, _, _, _, _, _, _, _, _, _, _, _, _, hl, _⟩ := z
    exact SqL.of hl) ?_ ?_⟩
  · rintro kk x σ H2 T' hx ⟨y1, y2, y3, y4, y5, y6, y7, y8, y9, y10, y11, y12, y13, y14, y15, y16, rfl, hl2, T2⟩ hT'
    rw [← hcs] at hx
    have hkk : kk < 6 := by
      have := (List.getElem?_eq_some_iff.mp hx).1
      rw [List.length_map, List.length_take] at this
      omega
    obtain ⟨cell, _, rfl⟩ := map_at2 hx
    refine ⟨T', _, rfl, SqT.of upd_same, rfl, _, _, rfl, _, _, rfl, rfl, ?_⟩
    have sT := same_upd (o := .tup [V.int (kk : Nat), V.int cell]) hT'
    have hl3 := sT _ _ hl2
    have T3 := T2.ext sT
    generalize upd H2 T' (.tup [V.int (kk : Nat), V.int cell]) = H3 at hl3 T3
    -- the drawing list
    refine ⟨fun σ' H' => ∃ d, σ' = [some (.ref a), some (.int (kk : Nat)), some (.int cell), some (.ref d), y4, y5, y6, y7, y8, y9, y10, y11, y12, y13, y14, y15, y16, none, none] ∧ Du H' d 0 ∧ Tabs TL H' ∧ H' lc = some (.lst cs) ∧ lc ≠ d, ?_, ?_⟩
    · exact ⟨.int cell, rfl, .int kk, rfl, cell, kk, rfl, by omega, by omega, fun d H4 nd4 s4 D4 => ⟨d, rfl, D4, T3.ext s4, s4 _ _ hl3, ne_of_none hl3 nd4⟩⟩
    rintro _ H4 ⟨d, rfl, D4, T4, hl4, nlc⟩
    -- how high
    refine ⟨fun σ' H' => ∃ high : Nat, σ' = [some (.ref a), some (.int (kk : Nat)), some (.int cell), some (.ref d), some (.int high), y5, y6, y7, y8, y9, y10, y11, y12, y13, y14, y15, y16, none, none] ∧ 1 ≤ high ∧ high ≤ 9 ∧ Du H' d 1 ∧ Tabs TL H' ∧ H' lc = some (.lst cs), ?_, ?_⟩
    · refine ⟨.ref d, rfl, d, 9, 0, rfl, D4, (by show 0 ≤ 1000000000000; decide), by decide, by decide, fun m H5 m0 m1 D5 dn5 => ⟨1, m, rfl, rfl, ?_⟩⟩
      obtain ⟨m, rfl⟩ := Int.eq_ofNat_of_zero_le m0
      have e1 : (1 + (m : Int)) = ((1 + m : Nat) : Int) := by omega
      exact ⟨1 + m, by rw [← e1]; rfl, by omega, by omega, D5, tabs_do T4 D4 dn5, dn5 _ _ hl4 nlc⟩
    rintro _ H5 ⟨high, rfl, h1, h9, D5, T5, hl5⟩
    -- the shapes
    refine ⟨fun σ' H' => ∃ (ls : Addr) (xs : List V) (ss : List Sh) (ww : Nat), σ' = [some (.ref a), some (.int (kk : Nat)), some (.int cell), some (.ref d), some (.int high), some (.ref ls), y6, y7, y8, y9, y10, y11, y12, y13, y14, y15, y16, none, none] ∧ ls ≠ d ∧ H' ls = some (.lst xs) ∧ Shs H' xs ss ∧ Goods high ww ss ∧ ww ≤ 8 ∧ 0 < ss.length ∧ ss.length ≤ 6 ∧ Du H' d 500002 ∧ Tabs TL H' ∧ H' lc = some (.lst cs), ?_, ?_⟩
    · refine ⟨.ref d, rfl, .int high, rfl, .ref d, rfl, d, 8, 1, rfl, D5, (by show 1 ≤ 1000000000000; decide), by decide, by decide, fun m H6 m0 m1 D6 dn6 => ⟨1, m, rfl, rfl, ?_⟩⟩
      obtain ⟨m, rfl⟩ := Int.eq_ofNat_of_zero_le m0
      have e1 : (1 + (m : Int)) = ((1 + m : Nat) : Int) := by omega
      refine ⟨d, high, 6, 1 + m, 2, congrArg (fun z => [V.ref d, V.int high, V.int 6, V.int z]) e1, D6, (by show 500002 ≤ 1000000000000; decide), h1, by omega, by decide, by decide, by omega, by omega, fun l xs ss H7 nl hl Ss Gs l0' l1' D7 dn7 => ?_⟩
      exact ⟨l, xs, ss, 1 + m, rfl, D6.new nl, hl, Ss, Gs, by omega, l0', l1', D7, tabs_do (tabs_do T5 D5 dn6) D6 dn7, dn7 _ _ (dn6 _ _ hl5 nlc) nlc⟩
    rintro _ H6 ⟨ls, xs, ss, ww, rfl, nls, hls, Ss, Gs, hww, l0', l6, D6, T6, hl6⟩
    have hpr : ∀ s ∈ ss, PicR high s.w s.rs := fun s hs => (Gs.all s hs).pic
    -- the alphabet, and how wide the line is
    refine ⟨fun σ' H' => ∃ (o : Addr) (wide : Nat), σ' = [some (.ref a), some (.int (kk : Nat)), some (.int cell), some (.ref d), some (.int high), some (.ref ls), some (.ref o), some (.int wide), y8, y9, y10, y11, y12, y13, y14, y15, y16, none, none] ∧ 1 ≤ wide ∧ wide ≤ 60 ∧ AlpG CA H' o high ss ∧ H' ls = some (.lst xs) ∧ Shs H' xs ss ∧ Du H' d 500004 ∧ Tabs TL H' ∧ H' lc = some (.lst cs), ?_, ?_⟩
    · refine ⟨.int high, rfl, .ref ls, rfl, fun o dx no ndx nxo => ?_⟩
      have s8 : Same H6 (upd (upd H6 dx (.own o)) o (.ins CA dx [])) := fun b u e => by
        rw [upd_ne (ne_of_none e no), upd_ne (ne_of_none e ndx)]
        exact e
      refine ⟨o, dx, ls, high, xs, ss, rfl, upd_same, h1, by omega, s8 _ _ hls, Ss.same s8, ⟨fun s hs => ?_, Gs.nd⟩, l0', by omega, fun H8 al kp => ⟨rfl, ?_⟩⟩
      · have g := Gs.all s hs
        exact ⟨g.pic, Nat.le_trans g.w8 (by omega), g.s0, g.s1, g.dot⟩
      have s68 : Same H6 H8 := fun b u e => kp b u (s8 b u e) (ne_of_none e no)
      have D8 := D6.same s68
      have al8 : AlpG CA H8 o high ss := ⟨al, hpr, l0', by omega⟩
      refine ⟨.ref d, rfl, d, 30, 500002, rfl, D8, (by show _ ≤ 1000000000000; decide), by decide, by decide, fun m H9 m0 m1 D9 dn9 => ⟨1, m, rfl, rfl, by show 2 ≤ sizeLine; decide, fun l hl => ?_⟩⟩
      obtain ⟨m, rfl⟩ := Int.eq_ofNat_of_zero_le m0
      have sl := same_upd (o := .lst [V.int 60, V.int (1 + (m : Int))]) hl
      have hll : (upd H9 l (.lst [V.int 60, V.int (1 + (m : Int))])) l = some (.lst [V.int 60, V.int (1 + (m : Int))]) := upd_same
      have nld := D9.new hl
      have DA := D9.same sl
      generalize upd H9 l (.lst [V.int 60, V.int (1 + (m : Int))]) = HA at sl hll DA ⊢
      refine ⟨.ref d, rfl, d, 6, 500003, rfl, DA, (by show _ ≤ 1000000000000; decide), by decide, by decide, fun m2 HC m20 m21 DC dnC => ⟨1, m2, rfl, ?_⟩⟩
      have d8C : Do d H8 HC := dn9.trans ((Do.same sl).trans dnC)
      have fin : ∀ (wide : Nat), 1 ≤ wide → wide ≤ 60 → ∀ t, HC t = none → ∃ (o' : Addr) (wide' : Nat), ([some (.ref a), some (.int (kk : Nat)), some (.int cell), some (.ref d), some (.int high), some (.ref ls), some (.ref o), some (.int wide), y8, y9, y10, y11, y12, y13, y14, y15, y16, none, none] : L2.St) = [some (.ref a), some (.int (kk : Nat)), some (.int cell), some (.ref d), some (.int high), some (.ref ls), some (.ref o'), some (.int wide'), y8, y9, y10, y11, y12, y13, y14, y15, y16, none, none] ∧ 1 ≤ wide' ∧ wide' ≤ 60 ∧ AlpG CA (upd HC t (.tup [V.ref o, V.int (wide : Int)])) o' high ss ∧ (upd HC t (.tup [V.ref o, V.int (wide : Int)])) ls = some (.lst xs) ∧ Shs (upd HC t (.tup [V.ref o, V.int (wide : Int)])) xs ss ∧ Du (upd HC t (.tup [V.ref o, V.int (wide : Int)])) d 500004 ∧ Tabs TL (upd HC t (.tup [V.ref o, V.int (wide : Int)])) ∧ (upd HC t (.tup [V.ref o, V.int (wide : Int)])) lc = some (.lst cs) := fun wide w1 w60 t ht => by
        have st := same_upd (o := .tup [V.ref o, V.int (wide : Int)]) ht
        exact ⟨o, wide, rfl, w1, w60, ((Kp.of_do d8C).alp D8 al8).same st, st _ _ (d8C _ _ (s68 _ _ hls) nls), ((Ss.same s68).dn D8 d8C).same st, DC.same st, (tabs_do (T6.ext s68) D8 d8C).ext st, st _ _ (d8C _ _ (s68 _ _ hl6) nlc)⟩
      have hlC := dnC _ _ hll nld
      by_cases hm2 : m2 < 1
      · rw [if_pos hm2]
        obtain rfl : m2 = 0 := by omega
        refine ⟨l, _, 0, .int 60, rfl, rfl, SqL.of hlC, rfl, by show 2 ≤ sizeLine; decide, fun t ht => ⟨t, _, rfl, SqT.of upd_same, rfl, _, _, rfl, _, _, rfl, rfl, ?_⟩⟩
        exact fin 60 (by decide) (by decide) t ht
      · rw [if_neg hm2]
        refine ⟨l, _, 1, .int (1 + (m : Int)), rfl, rfl, SqL.of hlC, rfl, by show 2 ≤ sizeLine; decide, fun t ht => ⟨t, _, rfl, SqT.of upd_same, rfl, _, _, rfl, _, _, rfl, rfl, ?_⟩⟩
        have e1 : (1 + (m : Int)) = ((1 + m : Nat) : Int) := by omega
        rw [e1]
        exact fin (1 + m) (by omega) (by omega) t ht
    rintro _ H7 ⟨o, wide, rfl, c1, c60, al7, hls7, Ss7, D7, T7, hl7⟩
    -- the way
    refine ⟨fun σ' H' => ∃ (pw : Addr) (zs : List V) (ws : List (Nat × Nat)), σ' = [some (.ref a), some (.int (kk : Nat)), some (.int cell), some (.ref d), some (.int high), some (.ref ls), some (.ref o), some (.int wide), some (.ref pw), y9, y10, y11, y12, y13, y14, y15, y16, none, none] ∧ WayOk ss wide ws ∧ ws.length ≤ 60 ∧ H' pw = some (.tup zs) ∧ Plc K H' zs ws ∧ AlpG CA H' o high ss ∧ H' ls = some (.lst xs) ∧ Shs H' xs ss ∧ Du H' d 500064 ∧ Tabs TL H' ∧ H' lc = some (.lst cs), ?_, ?_⟩
    · refine ⟨.ref d, rfl, .ref ls, rfl, .int wide, rfl, d, ls, 500004, high, wide, xs, ss, rfl, D7, (by show _ ≤ 1000000000000; decide), nls, hls7, Ss7, hpr, l0', by omega, c1, c60, fun p zs ws H8 np hp pl wk lw D8 dn8 => ?_⟩
      exact ⟨p, zs, ws, rfl, wk, lw, hp, pl, (Kp.of_do dn8).alp D7 al7, dn8 _ _ hls7 nls, Ss7.dn D7 dn8, D8, tabs_do T7 D7 dn8, dn8 _ _ hl7 nlc⟩
    rintro _ H8 ⟨pw, zs, ws, rfl, wk, lw60, hpw, pl8, al8, hls8, Ss8, D8, T8, hl8⟩
    have lz : zs.length = ws.length := pl8.len
    -- its columns
    refine ⟨fun σ' H' => ∃ g : Addr, σ' = [some (.ref a), some (.int (kk : Nat)), some (.int cell), some (.ref d), some (.int high), some (.ref ls), some (.ref o), some (.int wide), some (.ref pw), some (.ref g), y10, y11, y12, y13, y14, y15, y16, none, none] ∧ H' g = some (.lst ((colsR ss high wide ws).map rv)) ∧ Same H8 H', ?_, ?_⟩
    · exact ⟨.ref ls, rfl, .int high, rfl, .int wide, rfl, .ref pw, rfl, ls, pw, high, wide, xs, zs, ss, ws, rfl, ⟨hls8, Ss8, hpr, SqT.of hpw, pl8, wk, c1, c60, h1, by omega⟩, fun g H9 s9 ng hg => ⟨g, rfl, hg, s9⟩⟩
    rintro _ H9 ⟨g, rfl, hg, s9⟩
    -- its line
    refine ⟨fun σ' H' => ∃ pl0 : Addr, σ' = [some (.ref a), some (.int (kk : Nat)), some (.int cell), some (.ref d), some (.int high), some (.ref ls), some (.ref o), some (.int wide), some (.ref pw), some (.ref g), some (.ref pl0), y11, y12, y13, y14, y15, y16, none, none] ∧ H' pl0 = some (.tup ((drawR ss high wide ws).map rv)) ∧ Same H8 H', ?_, ?_⟩
    · refine ⟨.int high, rfl, high, rfl, by omega, by omega, fun D hD => lc_range (lo := 0) (n := high) (fun i H2 => Same H9 H2 ∧ H2 D = some (.lst (((drawR ss high wide ws).take i).map rv))) ⟨same_upd hD, upd_same⟩ ?_ ?_⟩
      · rintro i H2 hi ⟨sm, h2⟩
        have e0 : (0 + (i : Int)) = (i : Int) := Int.zero_add _
        rw [e0]
        have hg2 := sm _ _ hg
        refine ⟨rfl, ⟨"", rfl⟩, .ref g, rfl, g, rfl, ⟨_, SqL.of hg2⟩, fun D2 hD2 => lc_list (K := K) (a := g) (xs := (colsR ss high wide ws).map rv) (fun j H3 => Same H2 H3 ∧ H3 D2 = some (.lst ((((List.range wide).map (pix ss ws i)).take j).map ch))) ⟨same_upd hD2, upd_same⟩ (fun j H3 _ z => SqL.of (z.1 _ _ hg2)) ?_ ?_⟩
        · rintro j x H3 hx ⟨sm3, h3⟩
          obtain ⟨col, hcol, rfl⟩ := map_at2 hx
          have hj : j < wide := by
            have := (List.getElem?_eq_some_iff.mp hcol).1
            rw [len_cols] at this
            exact this
          have ecol : col = colR ss high ws j := by
            unfold colsR at hcol
            rw [List.getElem?_map, List.getElem?_range hj] at hcol
            exact (Option.some.inj hcol).symm
          subst ecol
          have ec : (colR ss high ws j)[i]? = some (pix ss ws i j) := by
            unfold colR
            rw [List.getElem?_map, List.getElem?_range hi]
            rfl
          have ep : ((List.range wide).map (pix ss ws i))[j]? = some (pix ss ws i j) := by
            rw [List.getElem?_map, List.getElem?_range hj]
            rfl
          refine ⟨rfl, rv (colR ss high ws j), rfl, .int i, rfl, S (colR ss high ws j), (i : Int), pix ss ws i j, rfl, rfl, ?_, by rw [show (S (colR ss high ws j)).cps.toList = colR ss high ws j by simp [S]]; exact atI_nat ec, _, h3, ?_, same_over sm3 hD2, ?_⟩
          · rw [SX.S_len]
            unfold colR
            rw [List.length_map, List.length_range]
            exact Nat.le_of_lt (small1000 (by omega))
          · rw [List.length_map, List.length_take]
            exact small1000 (by omega)
          · rw [upd_same, take_snoc ep, List.map_append]
            rfl
        · rintro H3 ⟨sm3, h3⟩
          have et : ((List.range wide).map (pix ss ws i)).take ((colsR ss high wide ws).map rv).length = (List.range wide).map (pix ss ws i) := List.take_of_length_le (by rw [List.length_map, List.length_map, List.length_range, len_cols]; exact Nat.le_refl _)
          rw [et] at h3
          refine ⟨"", D2, ((List.range wide).map (pix ss ws i)).map fun c => (⟨#[c]⟩ : Str), rfl, rfl, .inl (SqL.of (h3.trans (by generalize (List.range wide).map (pix ss ws i) = lz; rw [List.map_map]; rfl))), ?_, ?_⟩
          · rw [lens_rows]
            show ((List.range wide).map (pix ss ws i)).length + _ * 0 ≤ 16777216
            rw [List.length_map, List.length_range]
            omega
          · rw [join_row]
            have ed : (drawR ss high wide ws)[i]? = some ((List.range wide).map (pix ss ws i)) := by
              unfold drawR
              rw [List.getElem?_map, List.getElem?_range hi]
              rfl
            refine ⟨_, sm3 _ _ h2, ?_, same_over (sm.trans sm3) hD, ?_⟩
            · rw [List.length_map, List.length_take]
              exact small1000 (by omega)
            · rw [upd_same, take_snoc ed, List.map_append]
              rfl
      · rintro H2 ⟨sm, h2⟩
        have e3 : (drawR ss high wide ws).take high = drawR ss high wide ws := List.take_of_length_le (by unfold drawR; rw [List.length_map, List.length_range]; exact Nat.le_refl _)
        rw [e3] at h2
        exact ⟨D, _, rfl, .inl ⟨SqL.of h2, fun p hp => ⟨p, rfl, upd_same, (s9.trans sm).trans (same_upd hp)⟩⟩⟩
    rintro _ HA ⟨pl0, rfl, hpl0, sA⟩
    have prD : PicR high wide (drawR ss high wide ws) := draw_pic hpr wk h1 (by omega) c1 (by omega)
    have good : ∀ {H' : Hp}, Same H8 H' → GoodR K H' ss wide (.ref pw) ws := fun s' => ⟨pw, zs, rfl, SqT.of (s' _ _ hpw), pl8.same s', wk⟩
    -- it is told so, and costs nothing
    refine ⟨fun σ' H' => σ' = [some (.ref a), some (.int (kk : Nat)), some (.int cell), some (.ref d), some (.int high), some (.ref ls), some (.ref o), some (.int wide), some (.ref pw), some (.ref g), some (.ref pl0), y11, y12, y13, y14, y15, y16, none, none] ∧ H' pl0 = some (.tup ((drawR ss high wide ws).map rv)) ∧ Same H8 H', ?_, ?_⟩
    · refine ⟨.ref o, rfl, .int wide, rfl, .ref pw, rfl, o, high, ss, .int wide, .ref pw, rfl, al8.same sA, kt_int _, .inr ⟨wide, rfl, c1, c60, .inr ⟨ws, good sA, fun p HC sC np hp => ?_⟩⟩⟩
      have s8C := sA.trans sC
      have hplC := sC _ _ hpl0
      refine ⟨.ref pl0, rfl, .tuple ((drawR ss high wide ws).map rD), .tuple ((drawR ss high wide ws).map rD), .tup (SqT.of hp) (dp_rows _), .tup (SqT.of hplC) (dp_rows _), shaped_rows prD.rows, shaped_rows prD.rows, _, rfl, iteE (by rw [eqv_pics, decide_eq_true rfl]; rfl) ?_⟩
      refine ⟨.ref o, rfl, .ref pl0, rfl, .ref pw, rfl, o, pl0, high, wide, ss, _, .ref pw, rfl, al8.same s8C, hplC, prD, c60, .inr ⟨ws, good s8C, fun HE sE => ⟨rfl, _, rfl, iteE ?_ ⟨rfl, sE _ _ hplC, s8C.trans sE⟩⟩⟩⟩
      rw [misP_self]
      decide
    rintro _ HA ⟨rfl, hpl0, sA⟩
    have DA := D8.same sA
    -- another line, near to it
    refine ⟨fun σ' H' => ∃ (po : Addr) (ors : List (List Nat)), σ' = [some (.ref a), some (.int (kk : Nat)), some (.int cell), some (.ref d), some (.int high), some (.ref ls), some (.ref o), some (.int wide), some (.ref pw), some (.ref g), some (.ref pl0), some (.ref po), y12, y13, y14, y15, y16, none, none] ∧ PicR high wide ors ∧ Lt K CA TL d lc ls o pw po cs xs zs high ss ws ors 500084 H', ?_, ?_⟩
    · refine ⟨.ref d, rfl, .ref d, rfl, .ref pl0, rfl, d, pl0, high, wide, 500064, _, rfl, DA, (by show _ ≤ 1000000000000; decide), hpl0, prD, fun p1 rs1 HC pr1 np1 hp1 DC dnC => ?_⟩
      refine ⟨d, p1, high, wide, 500074, rs1, rfl, DC, (by show _ ≤ 1000000000000; decide), hp1, pr1, fun p2 rs2 HE pr2 np2 hp2 DE dnE => ?_⟩
      have dn := dnC.trans dnE
      exact ⟨p2, rs2, rfl, pr2, ⟨DE, tabs_do (T8.ext sA) DA dn, dn _ _ (sA _ _ hl8) nlc, nlc, dn _ _ (sA _ _ hls8) nls, nls, (Ss8.same sA).dn DA dn, (Kp.of_do dn).alp DA (al8.same sA), (Kp.of_do dn).tup DA (sA _ _ hpw), hp2, (pl8.same sA).dn DA dn⟩⟩
    rintro _ HC ⟨po, ors, rfl, prO, LC⟩
    have goodL : ∀ {n : Nat} {H' : Hp}, Lt K CA TL d lc ls o pw po cs xs zs high ss ws ors n H' → GoodR K H' ss wide (.ref pw) ws := fun L => ⟨pw, zs, rfl, SqT.of L.hw, L.pl, wk⟩
    have swL : ∀ {n : Nat} {H' : Hp}, Lt K CA TL d lc ls o pw po cs xs zs high ss ws ors n H' → SW K H' ls pw high wide xs zs ss ws := fun L => ⟨L.hs, L.S, hpr, SqT.of L.hw, L.pl, wk, c1, c60, h1, by omega⟩
    have no_neI : ∀ i : Int, (!decide (V.int i = V.int i)) = false := fun i => by
      rw [decide_eq_true rfl]
      rfl
    -- it costs its dots
    refine ⟨fun σ' H' => σ' = [some (.ref a), some (.int (kk : Nat)), some (.int cell), some (.ref d), some (.int high), some (.ref ls), some (.ref o), some (.int wide), some (.ref pw), some (.ref g), some (.ref pl0), some (.ref po), y12, y13, y14, y15, y16, none, none] ∧ Lt K CA TL d lc ls o pw po cs xs zs high ss ws ors 500084 H', ?_, ?_⟩
    · refine ⟨.ref o, rfl, .ref po, rfl, .ref pw, rfl, o, po, high, wide, ss, ors, .ref pw, rfl, LC.al, LC.ho, prO, c60, .inr ⟨ws, goodL LC, fun HE sE => ?_⟩⟩
      have LE := LC.same sE
      exact ⟨.ref ls, rfl, .ref po, rfl, .ref pw, rfl, ls, po, pw, high, wide, xs, zs, ss, ws, ors, rfl, swL LE, LE.ho, prO, fun HF sF => ⟨rfl, _, rfl, iteE (no_neI _) ⟨rfl, LE.same sF⟩⟩⟩
    rintro _ HC ⟨rfl, LC⟩
    -- four things that may be readings
    refine ⟨fun σ' H' => ∃ y12 y13 y14 y15, σ' = [some (.ref a), some (.int (kk : Nat)), some (.int cell), some (.ref d), some (.int high), some (.ref ls), some (.ref o), some (.int wide), some (.ref pw), some (.ref g), some (.ref pl0), some (.ref po), y12, y13, y14, y15, y16, none, none] ∧ Lt K CA TL d lc ls o pw po cs xs zs high ss ws ors 500100 H', ?_, ?_⟩
    · refine ⟨4, rfl, by decide, by decide, for_range (lo := 0) (n := 4) (fun i σ H' => ∃ y12 y13 y14 y15, σ = [some (.ref a), some (.int (kk : Nat)), some (.int cell), some (.ref d), some (.int high), some (.ref ls), some (.ref o), some (.int wide), some (.ref pw), some (.ref g), some (.ref pl0), some (.ref po), y12, y13, y14, y15, y16, none, none] ∧ Lt K CA TL d lc ls o pw po cs xs zs high ss ws ors (500084 + 4 * i) H') ⟨y12, y13, y14, y15, rfl, LC⟩ ?_ ?_⟩
      · rintro i σ HD hi ⟨y12, y13, y14, y15, rfl, LD⟩
        generalize (V.int (0 + (i : Int))) = tv
        -- the thing
        refine ⟨fun σ' H' => ∃ thing b vs, σ' = [some (.ref a), some (.int (kk : Nat)), some (.int cell), some (.ref d), some (.int high), some (.ref ls), some (.ref o), some (.int wide), some (.ref pw), some (.ref g), some (.ref pl0), some (.ref po), some tv, some thing, y14, y15, y16, none, none] ∧ TS K d ss wide thing b vs H' ∧ Lt K CA TL d lc ls o pw po cs xs zs high ss ws ors (500084 + 4 * (i + 1)) H', ?_, ?_⟩
        · refine ⟨.ref d, rfl, .ref pw, rfl, .ref ls, rfl, ls, xs, rfl, .inl (SqL.of LD.hs), d, pw, _, ss.length, zs, ws, by rw [LD.S.len]; rfl, LD.D, (by show _ ≤ 1000000000000; omega), LD.hw, LD.pl, lw60, l0', by omega, fun x HE rd DE dnE => ?_⟩
          have LE := LD.do' dnE (DE.le (show 500084 + 4 * i + 4 ≤ 500084 + 4 * (i + 1) by omega))
          rcases rd_cases (cols := wide) l0' rd with ⟨vs, g⟩ | b
          · exact ⟨x, true, vs, rfl, .inl ⟨rfl, g⟩, LE⟩
          · exact ⟨x, false, [], rfl, .inr ⟨rfl, b⟩, LE⟩
        rintro _ HE ⟨thing, b, vs, rfl, ts, LE⟩
        generalize hv0 : misP ors (drawR ss high wide vs) = v0
        have nldL : ∀ {n : Nat} {H' : Hp} {l : Addr} {j : Int}, Lt K CA TL d lc ls o pw po cs xs zs high ss ws ors n H' → H' l = some (.lst [.int j]) → l ≠ d := fun L h e => by
          subst e
          obtain ⟨a1, b1, c1, hd, _⟩ := L.D
          rw [hd] at h
          cases h
        -- what is told of it
        refine ⟨fun σ' H' => ∃ told, σ' = [some (.ref a), some (.int (kk : Nat)), some (.int cell), some (.ref d), some (.int high), some (.ref ls), some (.ref o), some (.int wide), some (.ref pw), some (.ref g), some (.ref pl0), some (.ref po), some tv, some thing, some told, y15, y16, none, none] ∧ OutV d H' told b v0 ∧ TS K d ss wide thing b vs H' ∧ Lt K CA TL d lc ls o pw po cs xs zs high ss ws ors (500084 + 4 * (i + 1)) H', ?_, ?_⟩
        · refine ⟨by first | exact LE.T | (rw [hTT]; exact LE.T), fun H1 ext T1 R H2 s2 hR => ?_⟩
          try rw [hTT] at T1
          have L1 := (LE.ex ext T1).same s2
          have t1 := (ts.kp (.ext ext) LE.D).kp (.same s2) (LE.ex ext T1).D
          refine ⟨.ref o, rfl, .ref po, rfl, thing, rfl, o, po, high, wide, ss, ors, thing, rfl, L1.al, L1.ho, prO, c60, ?_⟩
          rcases id t1 with ⟨rfl, g⟩ | ⟨rfl, bk⟩
          · refine .inr ⟨vs, g, fun H3 s3 => hR _ _ fun t H4 s4 ht => ?_⟩
            rw [hv0] at ht
            have s34 := s3.trans s4
            exact ⟨.ref t, rfl, .inl ⟨rfl, t, rfl, ht⟩, t1.kp (.same s34) L1.D, L1.same s34⟩
          · refine .inl ⟨bk.bad, fun H3 s3 => ⟨CN, 5, rfl, L.k5, .inl rfl, fun t l H4 s4 ht hl => ?_⟩⟩
            have s34 := s3.trans s4
            exact ⟨.ref t, rfl, .inr ⟨rfl, t, l, rfl, nldL (L1.same s34) hl, ht, hl⟩, t1.kp (.same s34) L1.D, L1.same s34⟩
        rintro _ HF ⟨told, rfl, ot, ts, LF⟩
        -- what is due if it is none
        refine ⟨fun σ' H' => ∃ due, σ' = [some (.ref a), some (.int (kk : Nat)), some (.int cell), some (.ref d), some (.int high), some (.ref ls), some (.ref o), some (.int wide), some (.ref pw), some (.ref g), some (.ref pl0), some (.ref po), some tv, some thing, some told, some due, y16, none, none] ∧ OutV d H' due false v0 ∧ OutV d H' told b v0 ∧ TS K d ss wide thing b vs H' ∧ Lt K CA TL d lc ls o pw po cs xs zs high ss ws ors (500084 + 4 * (i + 1)) H', ?_, ?_⟩
        · refine ⟨by show 1 ≤ sizeLine; decide, fun l hl => ⟨by show 2 ≤ sizeLine; decide, fun t ht => ?_⟩⟩
          have sm := (same_upd (o := .lst [V.int 5]) hl).trans (same_upd (o := .tup [V.str "refused", V.ref l]) ht)
          exact ⟨.ref t, rfl, .inr ⟨rfl, t, l, rfl, LF.D.new hl, upd_same, same_upd ht _ _ upd_same⟩, ot.kp (.same sm) LF.D, ts.kp (.same sm) LF.D, LF.same sm⟩
        rintro _ HG ⟨due, rfl, od, ot, ts, LG⟩
        -- what is due
        refine ⟨fun σ' H' => ∃ due, σ' = [some (.ref a), some (.int (kk : Nat)), some (.int cell), some (.ref d), some (.int high), some (.ref ls), some (.ref o), some (.int wide), some (.ref pw), some (.ref g), some (.ref pl0), some (.ref po), some tv, some thing, some told, some due, y16, none, none] ∧ OutV d H' due b v0 ∧ OutV d H' told b v0 ∧ TS K d ss wide thing b vs H' ∧ Lt K CA TL d lc ls o pw po cs xs zs high ss ws ors (500084 + 4 * (i + 1)) H', ?_, ?_⟩
        · refine ⟨.ref ls, rfl, .int wide, rfl, thing, rfl, ls, d, high, wide, xs, ss, thing, rfl, LG.hs, LG.S, hpr, l0', ?_⟩
          rcases id ts with ⟨rfl, g⟩ | ⟨rfl, bk⟩
          · refine .inl ⟨vs, g, fun H3 s3 => ⟨_, rfl, iteT ?_⟩⟩
            have L3 := LG.same s3
            obtain ⟨at1, zt, rfl, hat, plt, wkt⟩ := g.same s3
            refine ⟨.ref ls, rfl, .ref po, rfl, .ref at1, rfl, ls, po, at1, high, wide, xs, zt, ss, vs, ors, rfl, ⟨L3.hs, L3.S, hpr, hat, plt, wkt, c1, c60, h1, by omega⟩, L3.ho, prO, fun H4 s4 => ⟨by show 2 ≤ sizeLine; decide, fun t ht => ?_⟩⟩
            rw [hv0]
            have sm := (s3.trans s4).trans (same_upd (o := .tup [V.str "told", V.int v0]) ht)
            exact ⟨.ref t, rfl, .inl ⟨rfl, t, rfl, upd_same⟩, ot.kp (.same sm) LG.D, ts.kp (.same sm) LG.D, LG.same sm⟩
          · exact .inr ⟨bk, fun H3 s3 => ⟨_, rfl, iteF ⟨due, rfl, od.kp (.same s3) LG.D, ot.kp (.same s3) LG.D, ts.kp (.same s3) LG.D, LG.same s3⟩⟩⟩
        rintro _ HI ⟨due, rfl, od, ot, ts, LI⟩
        refine ⟨told, rfl, due, rfl, outD b v0, outD b v0, ot.dp, od.dp, out_sh _ _, out_sh _ _, _, rfl, iteE (by rw [out_eq]; rfl) ?_⟩
        refine ⟨by first | exact LI.T | (rw [hTT]; exact LI.T), fun H1 ext T1 R H2 s2 hR => ?_⟩
        try rw [hTT] at T1
        have L1 := (LI.ex ext T1).same s2
        have t1 := (ts.kp (.ext ext) LI.D).kp (.same s2) (LI.ex ext T1).D
        have o1 := (od.kp (.ext ext) LI.D).kp (.same s2) (LI.ex ext T1).D
        refine ⟨.ref o, rfl, .int wide, rfl, thing, rfl, o, high, ss, .int wide, thing, rfl, L1.al, kt_int _, .inr ⟨wide, rfl, c1, c60, ?_⟩⟩
        rcases id t1 with ⟨rfl, g⟩ | ⟨rfl, bk⟩
        · refine .inr ⟨vs, g, fun p H3 s3 np hp => hR _ _ fun t H4 s4 ht => ?_⟩
          have s34 := s3.trans s4
          obtain ⟨td, u, rfl, htd⟩ := (o1.kp (.same s34) L1.D).tup
          exact ⟨t, _, 0, .str "told", rfl, rfl, SqT.of ht, rfl, .ref td, rfl, td, _, 0, .str "told", rfl, rfl, SqT.of htd, rfl, rfl, _, rfl, iteE (no_ne _) ⟨_, _, _, _, rfl, L1.same s34⟩⟩
        · refine .inl ⟨bk.bad, fun H3 s3 => ⟨CN, 5, rfl, L.k5, .inl rfl, fun t l H4 s4 ht hl => ?_⟩⟩
          have s34 := s3.trans s4
          obtain ⟨td, u, rfl, htd⟩ := (o1.kp (.same s34) L1.D).tup
          exact ⟨t, _, 0, .str "refused", rfl, rfl, SqT.of ht, rfl, .ref td, rfl, td, _, 0, .str "refused", rfl, rfl, SqT.of htd, rfl, rfl, _, rfl, iteE (no_ne _) ⟨_, _, _, _, rfl, L1.same s34⟩⟩
      · rintro σ HD ⟨y12, y13, y14, y15, rfl, LD⟩
        exact ⟨y12, y13, y14, y15, rfl, LD⟩
    rintro _ HD ⟨y12, y13, y14, y15, rfl, LD⟩
    -- no line is as wide
    refine ⟨fun σ' H' => ∃ beyond, σ' = [some (.ref a), some (.int (kk : Nat)), some (.int cell), some (.ref d), some (.int high), some (.ref ls), some (.ref o), some (.int wide), some (.ref pw), some (.ref g), some (.ref pl0), some (.ref po), y12, y13, y14, y15, some beyond, none, none] ∧ OddC d H' beyond ∧ Lt K CA TL d lc ls o pw po cs xs zs high ss ws ors 500101 H', ?_, ?_⟩
    · refine ⟨.ref d, rfl, 1, rfl, by show 1 ≤ sizeLine; decide, fun t1 ht1 => ⟨by show 7 ≤ sizeLine; decide, fun l hl => ?_⟩⟩
      have s1 := same_upd (o := .tup [V.int 3]) ht1
      have e1 := upd_same (H := HD) (a := t1) (o := .tup [V.int 3])
      have sl := same_upd (o := .lst [V.int 0, V.int 61, V.int (-1), V.non, V.bl true, V.str "3", V.ref t1]) hl
      have L1 := (LD.same s1).same sl
      refine ⟨d, .ref l, _, rfl, L1.D, (by show _ ≤ 1000000000000; decide), .inl ⟨l, _, rfl, (LD.same s1).D.new hl, upd_same, by show 0 < 7; decide, by show 7 ≤ 1000; decide, fun j x HE hx DE dnE => ⟨x, rfl, ?_, L1.do' dnE DE⟩⟩⟩
      have hm := List.mem_of_getElem? hx
      simp only [List.mem_cons, List.not_mem_nil, or_false] at hm
      rcases hm with rfl | rfl | rfl | rfl | rfl | rfl | rfl
      · exact .inl ⟨0, rfl, .inl rfl⟩
      · exact .inl ⟨61, rfl, .inr (.inl rfl)⟩
      · exact .inl ⟨-1, rfl, .inr (.inr rfl)⟩
      · exact .inr (.inl rfl)
      · exact .inr (.inr (.inl rfl))
      · exact .inr (.inr (.inr (.inl rfl)))
      · exact .inr (.inr (.inr (.inr ⟨t1, rfl, (Kp.of_do dnE).tup L1.D (sl _ _ e1)⟩)))
    rintro _ HE ⟨beyond, rfl, ob, LE⟩
    refine ⟨by first | exact LE.T | (rw [hTT]; exact LE.T), fun H1 ext T1 R H2 s2 hR => ?_⟩
    try rw [hTT] at T1
    have L1 := (LE.ex ext T1).same s2
    have o1 := (ob.kp (.ext ext) LE.D).kp (.same s2) (LE.ex ext T1).D
    refine ⟨.ref o, rfl, beyond, rfl, by show 0 ≤ sizeLine; decide, fun t0 ht0 => ?_⟩
    have s0 := same_upd (o := .tup []) ht0
    refine ⟨o, high, ss, beyond, .ref t0, rfl, L1.al.same s0, (o1.kp (.same s0) L1.D).kt, .inl ⟨o1.b, fun H3 s3 => ⟨CL, 7, rfl, L.k7, .inl rfl, fun t2 l H4 s4 ht2 hl2 => ?_⟩⟩⟩
    have s04 := (s0.trans s3).trans s4
    refine ⟨by show 1 ≤ sizeLine; decide, fun l2 hl3 => ⟨by show 2 ≤ sizeLine; decide, fun t3 ht3 => ?_⟩⟩
    have s46 := (same_upd (o := .lst [V.int 7]) hl3).trans (same_upd (o := .tup [V.str "refused", V.ref l2]) ht3)
    have s06 := s04.trans s46
    have cmp : ∀ (H3 : Hp) (tt l : Addr), H3 tt = some (.tup [.str "refused", .ref l]) → H3 l = some (.lst [.int 7]) → Dp K H3 (.ref tt) (refD 7) := fun H3 tt l h1 h2 => .tup (SqT.of h1) (.cons (.str _) (.cons (.lst (SqL.of h2) (.cons (.int _) .nil)) .nil))
    have L6 := L1.same s06
    exact ⟨refD 7, refD 7, cmp _ t2 l (s46 _ _ ht2) (s46 _ _ hl2), cmp _ t3 l2 upd_same (same_upd ht3 _ _ upd_same), by decide +kernel, by decide +kernel, _, rfl, iteE (by decide +kernel) ⟨_, _, _, _, _, _, _, _, _, _, _, _, _, _, _, _, rfl, L6.hl, L6.T⟩⟩
  · rintro σ H2 ⟨y1, y2, y3, y4, y5, y6, y7, y8, y9, y10, y11, y12, y13, y14, y15, y16, rfl, _⟩
    exact rfl
end
end Dt
namespace Dt
open PySem PySem.Spec PyProof.Rows L2 L2X LamX
abbrev BndT (nm : Str) (st : Stmt) (ps : List Str) : Prop := ∀ (kV doc pm : Value) (an : Option Addr) (cdv ct : Value) (us : List Value), us.length = ps.length → bindArgs (PySem.W.fnOf nm nm (defArgs st) (defBody st) (defScope st) .none kV doc pm an cdv ct) ⟨us, []⟩ = pure (ps.zip us)
abbrev BndM (nm qn : Str) (st : Stmt) (ps : List Str) : Prop := ∀ (kV doc pm : Value) (an : Option Addr) (cdv ct : Value) (us : List Value), us.length = ps.length → bindArgs (PySem.W.fnOf nm qn (defArgs st) (defBody st) (defScope st) .none kV doc pm an cdv ct) ⟨us, []⟩ = pure (ps.zip us)
theorem df_mk {K : PySem.W.Frag} {h : Heap} {mg : Str → Option Value} {nm : Str} {st : Stmt} {ps : List Str} {f : Addr} {oc : Value} {od an : Option Addr} {osl : Array (Option Value)} {kV doc pm cdv ct : Value} (X : K.In h) (G : h.Ns mainGlobals mg)
    (a : PySem.W.nsIn K mainGlobals nm = some (some (.ref f))) (l : K.lookup f = some ⟨oc, od, .func (PySem.W.fnOf nm nm (defArgs st) (defBody st) (defScope st) .none kV doc pm an cdv ct), osl⟩) (c : PySem.W.codeIn K cdv nm = true) (k : PySem.W.keepIn K (.ref f) = true) (hb : BndT nm st ps) : Df K mg nm st ps :=
  have F := fun_mk (st := st) l c k
  ⟨f, _, F, PySem.W.mg_of X G a, F.binds (ps := ps) hb⟩
/-- a method as it stands behind the top -/
structure Dm (K : PySem.W.Frag) (C : Addr) (nm qn : Str) (st : Stmt) (ps : List Str) : Prop where
  ex : ∃ f fd, Fun K nm qn st f fd ∧ Meth K C nm f ∧ Binds K fd ps []
theorem dm_mk {K : PySem.W.Frag} {C : Addr} {nm qn : Str} {st : Stmt} {ps : List Str} {f : Addr} {oc : Value} {od an : Option Addr} {osl : Array (Option Value)} {kV doc pm cdv ct : Value}
    (a : PySem.W.findIn K (.ref C) nm = some (some (.ref f))) (i : PySem.W.isFn K (.ref f) = true) (l : K.lookup f = some ⟨oc, od, .func (PySem.W.fnOf nm qn (defArgs st) (defBody st) (defScope st) .none kV doc pm an cdv ct), osl⟩) (c : PySem.W.codeIn K cdv qn = true) (k : PySem.W.keepIn K (.ref f) = true) (hb : BndM nm qn st ps) : Dm K C nm qn st ps :=
  have F := fun_mk (st := st) l c k
  ⟨f, _, F, ⟨a, i, k⟩, F.binds (ps := ps) hb⟩
theorem Mm.of {P : Program} {w : World} {K : PySem.W.Frag} {mg : Str → Option Value} {base : Heap} {k : Nat} {C : Addr} {nm qn : Str} {st : Stmt} {ps : List Str} {sp : Sp} (d : Dm K C nm qn st ps) (h : ∀ f fd, Fun K nm qn st f fd → FnOk P w K mg base CX0 k f fd ps sp) : Mm P w K mg base k C nm ps sp := by
  obtain ⟨f, fd, F, m, b⟩ := d.ex
  exact ⟨f, fd, h f fd F, m, b⟩
theorem noa {K : PySem.W.Frag} {C : Addr} {f : Str} (h : PySem.W.findIn K (.ref C) f = some none) : NoAttr K C f := h
theorem exN_mk {K : PySem.W.Frag} {h : Heap} {mg : Str → Option Value} {nm : Str} {C : Addr} (X : K.In h) (G : h.Ns mainGlobals mg) (a : PySem.W.nsIn K mainGlobals nm = some (some (.ref C))) (x : PySem.W.excIn K C [.type "ValueError", .type "Exception", .type "BaseException", .type "object"] "ValueError.__new__" = true) (k : PySem.W.keepIn K (.ref C) = true) (b : PySem.W.subIn K (.ref C) (.type "BaseException") = some true) (t : PySem.W.typeIn K (.ref C) = some (.type "type")) : ExN K mg nm C :=
  ⟨PySem.W.mg_of X G a, x, k, b, t⟩
theorem bnd0 : BndT "_law_begun" sBg ["cell", "k"] := fun _ _ _ _ _ _ us hl => match us, hl with | [_, _], _ => rfl
theorem bnd1 : BndT "_law_next" sNx ["draw", "below"] := fun _ _ _ _ _ _ us hl => match us, hl with | [_, _], _ => rfl
theorem bnd2 : BndT "_law_pick" sPk ["draw", "some"] := fun _ _ _ _ _ _ us hl => match us, hl with | [_, _], _ => rfl
theorem bnd3 : BndT "_law_picture" sPc ["draw", "high", "wide", "dense"] := fun _ _ _ _ _ _ us hl => match us, hl with | [_, _, _, _], _ => rfl
theorem bnd4 : BndT "_law_near" sNr ["draw", "picture"] := fun _ _ _ _ _ _ us hl => match us, hl with | [_, _], _ => rfl
theorem bnd5 : BndT "_law_shapes" sShp ["draw", "high", "most", "wide"] := fun _ _ _ _ _ _ us hl => match us, hl with | [_, _, _, _], _ => rfl
theorem bnd6 : BndT "_law_set" sLS ["shapes", "high", "wide", "way"] := fun _ _ _ _ _ _ us hl => match us, hl with | [_, _, _, _], _ => rfl
theorem bnd7 : BndT "_law_dots" sLD ["shapes", "line", "way"] := fun _ _ _ _ _ _ us hl => match us, hl with | [_, _, _], _ => rfl
theorem bnd8 : BndT "_law_word" sLW ["work", "some"] := fun _ _ _ _ _ _ us hl => match us, hl with | [_, _], _ => rfl
theorem bnd9 : BndT "_law_classes" sLC ["e"] := fun _ _ _ _ _ _ us hl => match us, hl with | [_], _ => rfl
theorem bnd10 : BndT "_law_drawn_way" sDV ["draw", "shapes", "wide"] := fun _ _ _ _ _ _ us hl => match us, hl with | [_, _, _], _ => rfl
theorem bnd11 : BndT "_law_is_way" sIy ["shapes", "wide", "thing"] := fun _ _ _ _ _ _ us hl => match us, hl with | [_, _, _], _ => rfl
theorem bnd12 : BndT "_law_otherwise" sOw ["draw", "way", "many"] := fun _ _ _ _ _ _ us hl => match us, hl with | [_, _, _], _ => rfl
theorem bnd13 : BndT "law" sLaw ["script"] := fun _ _ _ _ _ _ us hl => match us, hl with | [_], _ => rfl
theorem bnd14 : BndT "is_text" sIsText ["thing"] := fun _ _ _ _ _ _ us hl => match us, hl with | [_], _ => rfl
theorem bnd15 : BndT "_is_row" sIsRow ["thing"] := fun _ _ _ _ _ _ us hl => match us, hl with | [_], _ => rfl
theorem bnd16 : BndT "is_picture" sIsPic ["thing"] := fun _ _ _ _ _ _ us hl => match us, hl with | [_], _ => rfl
theorem bnd17 : BndT "want_picture" sWant ["thing"] := fun _ _ _ _ _ _ us hl => match us, hl with | [_], _ => rfl
theorem bnd18 : BndT "size" sSize ["picture"] := fun _ _ _ _ _ _ us hl => match us, hl with | [_], _ => rfl
theorem bnd19 : BndT "is_number" sIsNum ["thing"] := fun _ _ _ _ _ _ us hl => match us, hl with | [_], _ => rfl
theorem bnd20 : BndT "is_between" sBetw ["thing", "least", "most"] := fun _ _ _ _ _ _ us hl => match us, hl with | [_, _, _], _ => rfl
theorem bnd21 : BndT "is_list" sIsList ["thing"] := fun _ _ _ _ _ _ us hl => match us, hl with | [_], _ => rfl
theorem bnd22 : BndT "is_tuple" sIsTup ["thing", "many"] := fun _ _ _ _ _ _ us hl => match us, hl with | [_, _], _ => rfl
theorem bnd23 : BndT "dots" sDots ["picture"] := fun _ _ _ _ _ _ us hl => match us, hl with | [_], _ => rfl
theorem bnd24 : BndT "_unlike_signs" sUS ["row", "other"] := fun _ _ _ _ _ _ us hl => match us, hl with | [_, _], _ => rfl
theorem bnd25 : BndT "unlike" sUnlP ["one", "other"] := fun _ _ _ _ _ _ us hl => match us, hl with | [_, _], _ => rfl
theorem bnd26 : BndT "is_sign" sSg ["thing"] := fun _ _ _ _ _ _ us hl => match us, hl with | [_], _ => rfl
theorem bnd27 : BndT "_is_shape" sIS ["thing", "high"] := fun _ _ _ _ _ _ us hl => match us, hl with | [_, _], _ => rfl
theorem bnd28 : BndT "_is_picture_of" sIPO ["picture", "shapes"] := fun _ _ _ _ _ _ us hl => match us, hl with | [_, _], _ => rfl
theorem bnd29 : BndT "want_reading" sWR ["alphabet", "columns", "thing"] := fun _ _ _ _ _ _ us hl => match us, hl with | [_, _, _], _ => rfl
theorem bnd30 : BndT "_is_window" sIW ["alphabet", "thing", "edge", "columns"] := fun _ _ _ _ _ _ us hl => match us, hl with | [_, _, _, _], _ => rfl
theorem bnd31 : BndT "want_line" sWL ["alphabet", "thing"] := fun _ _ _ _ _ _ us hl => match us, hl with | [_, _], _ => rfl
theorem bnd32 : BndT "drawn" sDr ["alphabet", "wide", "reading"] := fun _ _ _ _ _ _ us hl => match us, hl with | [_, _, _], _ => rfl
theorem bnd33 : BndT "cost" sCo ["alphabet", "line", "reading"] := fun _ _ _ _ _ _ us hl => match us, hl with | [_, _, _], _ => rfl
theorem bnd34 : BndT "_row_drawn" sRD ["pictures", "wide", "reading", "row"] := fun _ _ _ _ _ _ us hl => match us, hl with | [_, _, _, _], _ => rfl
theorem bnm0 : BndM "__init__" "Alphabet.__init__" sAI ["self", "high", "shapes"] := fun _ _ _ _ _ _ us hl => match us, hl with | [_, _, _], _ => rfl
theorem bnm1 : BndM "high" "Alphabet.high" sAH ["self"] := fun _ _ _ _ _ _ us hl => match us, hl with | [_], _ => rfl
theorem bnm2 : BndM "shapes" "Alphabet.shapes" sAS ["self"] := fun _ _ _ _ _ _ us hl => match us, hl with | [_], _ => rfl
theorem bnm3 : BndM "wide" "Alphabet.wide" sAW ["self", "number"] := fun _ _ _ _ _ _ us hl => match us, hl with | [_, _], _ => rfl
theorem bnm4 : BndM "_want_number" "Alphabet._want_number" sAN ["self", "number"] := fun _ _ _ _ _ _ us hl => match us, hl with | [_, _], _ => rfl
theorem bnm5 : BndM "__len__" "Alphabet.__len__" sALn ["self"] := fun _ _ _ _ _ _ us hl => match us, hl with | [_], _ => rfl
structure AllD (K : PySem.W.Frag) (mg : Str → Option Value) (CA : Addr) : Prop where
  d0 : Df K mg "_law_begun" sBg ["cell", "k"]
  d1 : Df K mg "_law_next" sNx ["draw", "below"]
  d2 : Df K mg "_law_pick" sPk ["draw", "some"]
  d3 : Df K mg "_law_picture" sPc ["draw", "high", "wide", "dense"]
  d4 : Df K mg "_law_near" sNr ["draw", "picture"]
  d5 : Df K mg "_law_shapes" sShp ["draw", "high", "most", "wide"]
  d6 : Df K mg "_law_set" sLS ["shapes", "high", "wide", "way"]
  d7 : Df K mg "_law_dots" sLD ["shapes", "line", "way"]
  d8 : Df K mg "_law_word" sLW ["work", "some"]
  d9 : Df K mg "_law_classes" sLC ["e"]
  d10 : Df K mg "_law_drawn_way" sDV ["draw", "shapes", "wide"]
  d11 : Df K mg "_law_is_way" sIy ["shapes", "wide", "thing"]
  d12 : Df K mg "_law_otherwise" sOw ["draw", "way", "many"]
  d13 : Df K mg "law" sLaw ["script"]
  d14 : Df K mg "is_text" sIsText ["thing"]
  d15 : Df K mg "_is_row" sIsRow ["thing"]
  d16 : Df K mg "is_picture" sIsPic ["thing"]
  d17 : Df K mg "want_picture" sWant ["thing"]
  d18 : Df K mg "size" sSize ["picture"]
  d19 : Df K mg "is_number" sIsNum ["thing"]
  d20 : Df K mg "is_between" sBetw ["thing", "least", "most"]
  d21 : Df K mg "is_list" sIsList ["thing"]
  d22 : Df K mg "is_tuple" sIsTup ["thing", "many"]
  d23 : Df K mg "dots" sDots ["picture"]
  d24 : Df K mg "_unlike_signs" sUS ["row", "other"]
  d25 : Df K mg "unlike" sUnlP ["one", "other"]
  d26 : Df K mg "is_sign" sSg ["thing"]
  d27 : Df K mg "_is_shape" sIS ["thing", "high"]
  d28 : Df K mg "_is_picture_of" sIPO ["picture", "shapes"]
  d29 : Df K mg "want_reading" sWR ["alphabet", "columns", "thing"]
  d30 : Df K mg "_is_window" sIW ["alphabet", "thing", "edge", "columns"]
  d31 : Df K mg "want_line" sWL ["alphabet", "thing"]
  d32 : Df K mg "drawn" sDr ["alphabet", "wide", "reading"]
  d33 : Df K mg "cost" sCo ["alphabet", "line", "reading"]
  d34 : Df K mg "_row_drawn" sRD ["pictures", "wide", "reading", "row"]
  m0 : Dm K CA "__init__" "Alphabet.__init__" sAI ["self", "high", "shapes"]
  m1 : Dm K CA "high" "Alphabet.high" sAH ["self"]
  m2 : Dm K CA "shapes" "Alphabet.shapes" sAS ["self"]
  m3 : Dm K CA "wide" "Alphabet.wide" sAW ["self", "number"]
  m4 : Dm K CA "_want_number" "Alphabet._want_number" sAN ["self", "number"]
  m5 : Dm K CA "__len__" "Alphabet.__len__" sALn ["self"]
structure AllN (K : PySem.W.Frag) (mg : Str → Option Value) (C CA CN CL CP CD : Addr) (cs12 : List Addr) : Prop where
  z0 : mg "len" = none
  z1 : mg "range" = none
  z2 : mg "tuple" = none
  z3 : mg "list" = none
  z4 : mg "int" = none
  z5 : mg "type" = none
  z6 : mg "str" = none
  z7 : mg "all" = none
  z8 : mg "any" = none
  z9 : mg "sum" = none
  z10 : mg "zip" = none
  z11 : mg "enumerate" = none
  z12 : mg "max" = none
  z13 : mg "min" = none
  z14 : mg "isinstance" = none
  z15 : mg "ValueError" = none
  z16 : mg "bool" = none
  i0 : ∃ t, mg "MOST_ROWS" = some (.int 60 t)
  i1 : ∃ t, mg "MOST_COLUMNS" = some (.int 120 t)
  i2 : ∃ t, mg "MOST_LINE_COLUMNS" = some (.int 60 t)
  i3 : ∃ t, mg "MOST_HIGH" = some (.int 9 t)
  i4 : ∃ t, mg "MOST_WIDE" = some (.int 8 t)
  i5 : ∃ t, mg "MOST_SHAPES" = some (.int 16 t)
  n : Tn K mg C
  nr : ExN K mg "NoReading" CN
  nl : ExN K mg "NoLine" CL
  np : ExN K mg "NoPlace" CP
  ta : Tal K mg CA
  mks : PySem.W.makesIn K CA = true
  kp : PySem.W.keepIn K (.ref CA) = true
  gd : mg "DotError" = some (.ref CD)
  gs : ∃ c0 c1 c2 c3 c4 c5 c6 c7 c8 c9 c10 c11, cs12 = [c0, c1, c2, c3, c4, c5, c6, c7, c8, c9, c10, c11] ∧ mg "NoPicture" = some (.ref c0) ∧ mg "NoPlace" = some (.ref c1) ∧ mg "NoShape" = some (.ref c2) ∧ mg "NoSign" = some (.ref c3) ∧ mg "NoWord" = some (.ref c4) ∧ mg "NoReading" = some (.ref c5) ∧ mg "NoTable" = some (.ref c6) ∧ mg "NoLine" = some (.ref c7) ∧ mg "NoDeed" = some (.ref c8) ∧ mg "NoBack" = some (.ref c9) ∧ mg "TooMany" = some (.ref c10) ∧ mg "NoText" = some (.ref c11)
  k5 : K12 K CD cs12 CN 5
  k7 : K12 K CD cs12 CL 7
section
variable {P : Program} {w : World} {K : PySem.W.Frag} {mg : Str → Option Value} {base : Heap} {C CA CN CL CP CD : Addr} {cs12 : List Addr}
theorem facts (D : AllD K mg CA) (N : AllN K mg C CA CN CL CP CD cs12) : ∃ fI fC fdI fdC, LawFs P w K mg base CA CN CL CD cs12 fI fC fdI fdC := by
  have X : Tx mg := ⟨N.z0, N.z1, N.z2, N.z3, N.z4⟩
  have T : Tp mg := ⟨N.z5, N.z6, N.z7, N.i0, N.i1⟩
  have Z : Tz mg := ⟨N.z9, N.z10⟩
  have nxt : ∀ k, Pm P w K mg base CX0 (k + 1) "_law_next" ["draw", "below"] spNx := fun k => .of D.d1 fun f fd F => ok_nx F
  have pck : ∀ k, Pm P w K mg base CX0 (k + 2) "_law_pick" ["draw", "some"] (spPk K) := fun k => .of D.d2 fun f fd F => by
    obtain ⟨_, _, G, m, kp, b⟩ := (nxt k).ex
    exact ok_pk F X _ _ G m kp b
  have pct : ∀ k, Pm P w K mg base CX0 (k + 2) "_law_picture" ["draw", "high", "wide", "dense"] spPc := fun k => .of D.d3 fun f fd F => ok_pc F X (nxt k)
  have nea : ∀ k, Pm P w K mg base CX0 (k + 2) "_law_near" ["draw", "picture"] spNr := fun k => .of D.d4 fun f fd F => ok_nr F X (nxt k)
  have isT : ∀ k, Pm P w K mg base CX0 (k + 1) "is_text" ["thing"] (spIsText K) := fun k => .of D.d14 fun f fd F => ok_isText F T
  have isR : ∀ k, Pm P w K mg base CX0 (k + 2) "_is_row" ["thing"] (spIsRow K) := fun k => .of D.d15 fun f fd F => by
    obtain ⟨_, _, G, m, kp, b⟩ := (isT k).ex
    exact ok_isRow F T X G m kp b
  have isP : ∀ k, Pm P w K mg base CX0 (k + 3) "is_picture" ["thing"] (spIsPic K) := fun k => .of D.d16 fun f fd F => by
    obtain ⟨_, _, G, m, kp, b⟩ := (isR k).ex
    exact ok_isPic (k := k + 1) F T X G m kp b
  have wnt : ∀ k, GW P w K mg base C (k + 4) := fun k => by
    obtain ⟨fW, fdW, FW, mW, bW⟩ := (D.d17).ex
    obtain ⟨_, _, G, m, kp, b⟩ := (isP k).ex
    exact ⟨fW, fdW, ok_want (k := k + 2) FW N.n G m kp b, mW, FW.kp, bW⟩
  have siz : ∀ k, GS P w K mg base C (k + 5) := fun k => by
    obtain ⟨f, fd, F, m, b⟩ := (D.d18).ex
    exact ⟨f, fd, ok_size (k := k + 3) F X (wnt k), m, F.kp, b⟩
  have isN : ∀ k, Pm P w K mg base CX0 (k + 1) "is_number" ["thing"] (spIsNum K) := fun k => .of D.d19 fun f fd F => ok_isNum F T X
  have btw : ∀ k, Pm P w K mg base CX0 (k + 2) "is_between" ["thing", "least", "most"] (spBetw K) := fun k => .of D.d20 fun f fd F => by
    obtain ⟨_, _, G, m, kp, b⟩ := (isN k).ex
    exact ok_betw F G m kp b
  have isL : ∀ k, Pm P w K mg base CX0 (k + 1) "is_list" ["thing"] (spIsList K) := fun k => .of D.d21 fun f fd F => ok_isList F T X
  have isU : ∀ k, Pm P w K mg base CX0 (k + 1) "is_tuple" ["thing", "many"] (spIsTup K) := fun k => .of D.d22 fun f fd F => ok_isTup F T X
  have dts : ∀ k, Pm P w K mg base (L2.CX P w) (k + 5) "dots" ["picture"] (spDots K) := fun k => .of D.d23 fun f fd F => ok_dots (k := k + 3) F N.z11 (wnt k)
  have uns : ∀ k, Pm P w K mg base CX0 (k + 1) "_unlike_signs" ["row", "other"] spUS := fun k => .of D.d24 fun f fd F => ok_US F Z
  have unl : ∀ k, Pm P w K mg base (L2.CX P w) (k + 6) "unlike" ["one", "other"] (spUnlP CP) := fun k => .of D.d25 fun f fd F => by
    obtain ⟨_, _, G, m, kp, b⟩ := (uns (k + 4)).ex
    exact ok_unlP (fW := f) (fS := f) (fdW := fd) (fdS := fd) (k := k + 4) F Z N.np (wnt (k + 1)) (siz k) G m kp b
  have sgn : ∀ k, Pm P w K mg base CX0 (k + 2) "is_sign" ["thing"] spSg := fun k => .of D.d26 fun f fd F => ok_sg F X (isT k)
  have ish : ∀ k, Pm P w K mg base CX0 (k + 6) "_is_shape" ["thing", "high"] spIS := fun k => .of D.d27 fun f fd F => ok_is (k := k + 4) F X N.i4 (isU (k + 4)) (sgn (k + 3)) (isP (k + 2)) (siz k) (dts k)
  have ipo : ∀ k, Pm P w K mg base CX0 (k + 1) "_is_picture_of" ["picture", "shapes"] spIPO := fun k => .of D.d28 fun f fd F => ok_ipo F N.z8
  have ahi : ∀ k, Mm P w K mg base (k + 1) CA "high" ["self"] (spAH CA) := fun k => .of D.m1 fun f fd F => ok_ah F N.ta
  have ash : ∀ k, Mm P w K mg base (k + 1) CA "shapes" ["self"] (spAS CA) := fun k => .of D.m2 fun f fd F => ok_as F X N.ta
  have anu : ∀ k, Mm P w K mg base (k + 3) CA "_want_number" ["self", "number"] (spAN CA) := fun k => .of D.m4 fun f fd F => ok_an (k := k + 1) F X N.ta (btw k)
  have awi : ∀ k, Mm P w K mg base (k + 6) CA "wide" ["self", "number"] (spAW CA) := fun k => .of D.m3 fun f fd F => ok_aw (k := k + 4) F N.ta (siz k) (anu (k + 2))
  have wli : ∀ k, Pm P w K mg base CX0 (k + 6) "want_line" ["alphabet", "thing"] (spWL CA) := fun k => .of D.d31 fun f fd F => ok_wl (k := k + 4) F N.ta N.i2 (isP (k + 2)) (siz k) (ahi (k + 4))
  have aln : ∀ k, Mm P w K mg base (k + 1) CA "__len__" ["self"] (spALn CA) := fun k => .of D.m5 fun f fd F => ok_aln F X N.ta
  have iwi : ∀ k, Pm P w K mg base CX0 (k + 7) "_is_window" ["alphabet", "thing", "edge", "columns"] (spIW K CA) := fun k => .of D.d30 fun f fd F => ok_iw (k := k + 4) F X N.ta (isU (k + 5)) (btw (k + 4)) (aln (k + 4)) (awi k)
  have wre : ∀ k, Pm P w K mg base (L2.CX P w) (k + 8) "want_reading" ["alphabet", "columns", "thing"] (spWR K CA CN) := fun k => .of D.d29 fun f fd F => ok_wr (k := k + 6) F X T N.ta N.nr (iwi k) (awi (k + 1))
  have rdr : ∀ k, Pm P w K mg base CX0 (k + 1) "_row_drawn" ["pictures", "wide", "reading", "row"] (spRD K) := fun k => .of D.d34 fun f fd F => ok_rd (k := k) F
  have drw : ∀ k, Pm P w K mg base (L2.CX P w) (k + 9) "drawn" ["alphabet", "wide", "reading"] (spDr K CA CN CL) := fun k => .of D.d32 fun f fd F => ok_dr (k := k + 7) F X N.ta N.nl N.i2 (wre k) (btw (k + 6)) (ash (k + 7)) (ahi (k + 7)) (rdr (k + 7))
  have lse : ∀ k, Pm P w K mg base CX0 (k + 1) "_law_set" ["shapes", "high", "wide", "way"] (spLS K) := fun k => .of D.d6 fun f fd F => ok_ls (k := k) F X
  obtain ⟨fI, fdI, FI, mI, bI⟩ := (D.m0).ex
  obtain ⟨fC, fdC, FC, mC, bC⟩ := (D.d9).ex
  have T2 : T12 mg CD cs12 := ⟨N.z14, N.z15, N.z11, N.gd, N.gs⟩
  exact ⟨fI, fC, fdI, fdC,
    { tx := X
      ta := N.ta
      en := N.z11
      mi := N.z13
      mka := ⟨N.mks, mI.at_, mI.fn, N.kp⟩
      GI := ok_ai (k := 9) FI X N.ta N.z11 N.i3 N.i5 (btw 8) (isL 9) (ish 4) (ipo 9)
      bI := bI
      B := .of D.d0 fun f fd F => ok_bg (k := 11) F N.z12
      N := nxt 11
      K' := pck 10
      S := .of D.d5 fun f fd F => ok_shp (k := 8) F X N.z10 (nxt 10) (pck 9) (pct 9) (nea 9)
      NR := nea 10
      DV := .of D.d10 fun f fd F => ok_dv (k := 10) F X (nxt 10)
      LS := lse 11
      LD := .of D.d7 fun f fd F => ok_ld (k := 10) F X N.z11 N.z10 (lse 10)
      IY := .of D.d11 fun f fd F => ok_iy (k := 11) F X N.z14 N.z16
      OW := .of D.d12 fun f fd F => ok_ow (k := 10) F X (nxt 10) (pck 9)
      DR := drw 1
      CO := .of D.d33 fun f fd F => ok_co (k := 8) F (wli 3) (siz 4) (drw 0) (unl 3)
      tc := T2
      GC := ok_lc (k := 9) FC T2
      mC := mC
      kC := FC.kp
      bC := bC
      R := D.d8
      k5 := N.k5
      k7 := N.k7 }⟩
end
theorem gli_mk {K : PySem.W.Frag} {h : Heap} {mg : Str → Option Value} {nm : Str} {i : Int} {t : Tok} (X : K.In h) (G : h.Ns mainGlobals mg) (a : PySem.W.nsIn K mainGlobals nm = some (some (.int i t))) : ∃ t, mg nm = some (.int i t) := ⟨t, PySem.W.mg_of X G a⟩
theorem glk_mk {K : PySem.W.Frag} {h : Heap} {mg : Str → Option Value} {nm : Str} {C D : Addr} {b : Bool} (X : K.In h) (G : h.Ns mainGlobals mg) (a : PySem.W.nsIn K mainGlobals nm = some (some (.ref C))) (q : PySem.W.kitOne K (.ref D) (.ref C) = some b) : ∃ C, mg nm = some (.ref C) ∧ PySem.W.kitOne K (.ref D) (.ref C) = some b := ⟨C, PySem.W.mg_of X G a, q⟩
theorem glx_mk {K : PySem.W.Frag} {h : Heap} {mg : Str → Option Value} {nm : Str} {C D : Addr} (X : K.In h) (G : h.Ns mainGlobals mg) (a : PySem.W.nsIn K mainGlobals nm = some (some (.ref C))) (q : PySem.W.exmOne K (.ref D) (.ref C) = some true) : ∃ C, mg nm = some (.ref C) ∧ PySem.W.exmOne K (.ref D) (.ref C) = some true := ⟨C, PySem.W.mg_of X G a, q⟩
theorem kitc_ref {K : PySem.W.Frag} {C D : Addr} {b : Bool} (i : PySem.W.isClsIn K C = true) (y : PySem.W.typeIn K (.ref C) = some (.type "type")) (s : PySem.W.subIn K (.ref D) (.ref C) = some b) : PySem.W.kitCls K (.ref D) (.ref C) = some b := by
  have e2 : ((PySem.W.clsIn K C).isSome && PySem.W.typeIn K (.ref C) == some (.type "type")) = true := by
    have i' : (PySem.W.clsIn K C).isSome = true := i
    rw [i', y] <;> rfl
  show (if ((PySem.W.clsIn K C).isSome && PySem.W.typeIn K (.ref C) == some (.type "type")) = true then PySem.W.subIn K (.ref D) (.ref C) else none) = some b
  rw [if_pos e2]
  exact s
theorem kit_self {K : PySem.W.Frag} {C : Addr} : PySem.W.kitOne K (.ref C) (.ref C) = some true := if_pos (beq_self_eq_true _)
theorem kit_ne {K : PySem.W.Frag} {C D : Addr} {b : Bool} (n : D ≠ C) (h : PySem.W.kitCls K (.ref D) (.ref C) = some b) : PySem.W.kitOne K (.ref D) (.ref C) = some b := by
  unfold PySem.W.kitOne
  rw [if_neg (fun z => n (Value.ref.inj (beq_iff_eq.mp z)))]
  exact h
theorem glo_mk {K : PySem.W.Frag} {h : Heap} {mg : Str → Option Value} {nm : Str} {C D : Addr} {b : Bool} (X : K.In h) (G : h.Ns mainGlobals mg) (a : PySem.W.nsIn K mainGlobals nm = some (some (.ref C))) (i : PySem.W.isClsIn K C = true) (y : PySem.W.typeIn K (.ref C) = some (.type "type")) (s : PySem.W.subIn K (.ref D) (.ref C) = some b) (n : D ≠ C) : ∃ C, mg nm = some (.ref C) ∧ PySem.W.kitOne K (.ref D) (.ref C) = some b :=
  ⟨C, PySem.W.mg_of X G a, kit_ne n (kitc_ref i y s)⟩
theorem gls_mk {K : PySem.W.Frag} {h : Heap} {mg : Str → Option Value} {nm : Str} {C : Addr} (X : K.In h) (G : h.Ns mainGlobals mg) (a : PySem.W.nsIn K mainGlobals nm = some (some (.ref C))) : ∃ D, mg nm = some (.ref D) ∧ PySem.W.kitOne K (.ref C) (.ref D) = some true := ⟨C, PySem.W.mg_of X G a, kit_self⟩
theorem kit_ty {K : PySem.W.Frag} {D : Addr} {T : String} {b : Bool} (m : PySem.W.kitMeta T = true) (s : PySem.W.subIn K (.ref D) (.type T) = some b) : PySem.W.kitOne K (.ref D) (.type T) = some b := by
  unfold PySem.W.kitOne
  have n : ¬ ((Value.ref D == Value.type T) = true) := fun z => by
    have e := beq_iff_eq.mp z
    cases e
  rw [if_neg n]
  show (if PySem.W.kitMeta T = true then PySem.W.subIn K (.ref D) (.type T) else none) = some b
  rw [if_pos m]
  exact s
theorem glx_of {K : PySem.W.Frag} {h : Heap} {mg : Str → Option Value} {nm : Str} {C D : Addr} (X : K.In h) (G : h.Ns mainGlobals mg) (a : PySem.W.nsIn K mainGlobals nm = some (some (.ref C))) (b : PySem.W.subIn K (.ref C) (.type "BaseException") = some true) (hd : PySem.W.hasDictIn K C = true) (y : PySem.W.typeIn K (.ref C) = some (.type "type")) (s : PySem.W.subIn K (.ref D) (.ref C) = some true) :
    ∃ C, mg nm = some (.ref C) ∧ PySem.W.exmOne K (.ref D) (.ref C) = some true := ⟨C, PySem.W.mg_of X G a, PySem.W.exm_ref b hd y s⟩
theorem tabm {K : PySem.W.Frag} {f cc PP : Addr} {oc oc2 : Value} {od od2 : Option Addr} {fd : FuncData} {sl sl2 : Array (Option Value)} {vs : Array Value} (a : PySem.W.nsIn K mainGlobals "law" = some (some (.ref f))) (l : K.lookup f = some ⟨oc, od, .func fd, sl⟩) (c : fd.code = .ref cc) (m : K.lookup cc = some ⟨oc2, od2, .fields vs, sl2⟩) (v : (vs[11]? : Option Value) = some (.ref PP)) :
    PySem.W.tabIn K "law" = some (cc, PP) := by
  unfold PySem.W.tabIn
  rw [a]
  simp only
  rw [l]
  simp only
  rw [c]
  simp only
  rw [m]
  simp only
  rw [v]
/-- a class of the top -/
def Cc (K : PySem.W.Frag) (C : Addr) : Prop := PySem.W.isClsIn K C = true ∧ PySem.W.typeIn K (.ref C) = some (.type "type")
theorem Cc.of {K : PySem.W.Frag} {C D : Addr} {b : Bool} (c : Cc K C) (s : PySem.W.subIn K (.ref D) (.ref C) = some b) (n : D ≠ C) : PySem.W.kitOne K (.ref D) (.ref C) = some b := kit_ne n (kitc_ref c.1 c.2 s)
theorem gs12_mk {K : PySem.W.Frag} {h : Heap} {mg : Str → Option Value} {c0 c1 c2 c3 c4 c5 c6 c7 c8 c9 c10 c11 : Addr} (X : K.In h) (G : h.Ns mainGlobals mg) (a0 : PySem.W.nsIn K mainGlobals "NoPicture" = some (some (.ref c0))) (a1 : PySem.W.nsIn K mainGlobals "NoPlace" = some (some (.ref c1))) (a2 : PySem.W.nsIn K mainGlobals "NoShape" = some (some (.ref c2))) (a3 : PySem.W.nsIn K mainGlobals "NoSign" = some (some (.ref c3))) (a4 : PySem.W.nsIn K mainGlobals "NoWord" = some (some (.ref c4))) (a5 : PySem.W.nsIn K mainGlobals "NoReading" = some (some (.ref c5))) (a6 : PySem.W.nsIn K mainGlobals "NoTable" = some (some (.ref c6))) (a7 : PySem.W.nsIn K mainGlobals "NoLine" = some (some (.ref c7))) (a8 : PySem.W.nsIn K mainGlobals "NoDeed" = some (some (.ref c8))) (a9 : PySem.W.nsIn K mainGlobals "NoBack" = some (some (.ref c9))) (a10 : PySem.W.nsIn K mainGlobals "TooMany" = some (some (.ref c10))) (a11 : PySem.W.nsIn K mainGlobals "NoText" = some (some (.ref c11))) :
    ∃ d0 d1 d2 d3 d4 d5 d6 d7 d8 d9 d10 d11, [c0, c1, c2, c3, c4, c5, c6, c7, c8, c9, c10, c11] = [d0, d1, d2, d3, d4, d5, d6, d7, d8, d9, d10, d11] ∧ mg "NoPicture" = some (.ref d0) ∧ mg "NoPlace" = some (.ref d1) ∧ mg "NoShape" = some (.ref d2) ∧ mg "NoSign" = some (.ref d3) ∧ mg "NoWord" = some (.ref d4) ∧ mg "NoReading" = some (.ref d5) ∧ mg "NoTable" = some (.ref d6) ∧ mg "NoLine" = some (.ref d7) ∧ mg "NoDeed" = some (.ref d8) ∧ mg "NoBack" = some (.ref d9) ∧ mg "TooMany" = some (.ref d10) ∧ mg "NoText" = some (.ref d11) :=
  ⟨c0, c1, c2, c3, c4, c5, c6, c7, c8, c9, c10, c11, rfl, PySem.W.mg_of X G a0, PySem.W.mg_of X G a1, PySem.W.mg_of X G a2, PySem.W.mg_of X G a3, PySem.W.mg_of X G a4, PySem.W.mg_of X G a5, PySem.W.mg_of X G a6, PySem.W.mg_of X G a7, PySem.W.mg_of X G a8, PySem.W.mg_of X G a9, PySem.W.mg_of X G a10, PySem.W.mg_of X G a11⟩
theorem ks12 {K : PySem.W.Frag} {D : Addr} {j : Nat} {c0 c1 c2 c3 c4 c5 c6 c7 c8 c9 c10 c11 : Addr} (h0 : PySem.W.kitOne K (.ref D) (.ref c0) = some (decide (0 = j))) (h1 : PySem.W.kitOne K (.ref D) (.ref c1) = some (decide (1 = j))) (h2 : PySem.W.kitOne K (.ref D) (.ref c2) = some (decide (2 = j))) (h3 : PySem.W.kitOne K (.ref D) (.ref c3) = some (decide (3 = j))) (h4 : PySem.W.kitOne K (.ref D) (.ref c4) = some (decide (4 = j))) (h5 : PySem.W.kitOne K (.ref D) (.ref c5) = some (decide (5 = j))) (h6 : PySem.W.kitOne K (.ref D) (.ref c6) = some (decide (6 = j))) (h7 : PySem.W.kitOne K (.ref D) (.ref c7) = some (decide (7 = j))) (h8 : PySem.W.kitOne K (.ref D) (.ref c8) = some (decide (8 = j))) (h9 : PySem.W.kitOne K (.ref D) (.ref c9) = some (decide (9 = j))) (h10 : PySem.W.kitOne K (.ref D) (.ref c10) = some (decide (10 = j))) (h11 : PySem.W.kitOne K (.ref D) (.ref c11) = some (decide (11 = j))) :
    ∀ (i : Nat) (c : Addr), [c0, c1, c2, c3, c4, c5, c6, c7, c8, c9, c10, c11][i]? = some c → PySem.W.kitOne K (.ref D) (.ref c) = some (decide (i = j)) := by
  intro i c h
  match i, h with
  | 0, h => cases h; exact h0
  | 1, h => cases h; exact h1
  | 2, h => cases h; exact h2
  | 3, h => cases h; exact h3
  | 4, h => cases h; exact h4
  | 5, h => cases h; exact h5
  | 6, h => cases h; exact h6
  | 7, h => cases h; exact h7
  | 8, h => cases h; exact h8
  | 9, h => cases h; exact h9
  | 10, h => cases h; exact h10
  | 11, h => cases h; exact h11
  | n + 12, h => exact nomatch h
theorem end_mk13 {K : PySem.W.Frag} {mg : Str → Option Value} {C CA CN CL CP CD cc PP : Addr} {cs12 : List Addr} (D : AllD K mg CA) (N : AllN K mg C CA CN CL CP CD cs12) (t : PySem.W.tabIn K "law" = some (cc, PP)) (np : K.lookup PP = none) :
    ∃ (C CA CN CL CP CD : Addr) (cs12 : List Addr) (cc PP : Addr), AllD K mg CA ∧ AllN K mg C CA CN CL CP CD cs12 ∧ PySem.W.tabIn K "law" = some (cc, PP) ∧ K.lookup PP = none := ⟨C, CA, CN, CL, CP, CD, cs12, cc, PP, D, N, t, np⟩
theorem walk13 {l : PySem.W.OpenLaw} {q : Program} {loose : List Str} {XP : (Str → Option Value) → Heap → Prop} {YP : World → Heap → Prop} {d e : DefRec} {K : Params → PySem.W.Frag}
    (hn : l.most = some 63) (hdf : d.params.defaults = []) (hrec : (PyProof.Rows.recsOf q).find? (fun e => e.name == ("law" : Str)) = some e) (hY : ∀ (w : World) (h : Heap), YP w h → (K w.params).In h) (hname : d.name = "law")
    (F : ∀ (w : World) (mg : Str → Option Value) (h : Heap), (K w.params).In h → h.Ns mainGlobals mg → ∃ (C CA CN CL CP CD : Addr) (cs12 : List Addr) (cc PP : Addr), AllD (K w.params) mg CA ∧ AllN (K w.params) mg C CA CN CL CP CD cs12 ∧ PySem.W.tabIn (K w.params) "law" = some (cc, PP) ∧ (K w.params).lookup PP = none) :
    PySem.W.WalkO q loose XP YP l.row.toRowW d [] (fun f vs => PySem.call f vs) := by
  refine Att.attach_callB hn hdf fun w s₀ s₁ mg mb fa o pm cd doc a vs ns G Y ho hd hcd hmg hobj hints hlen hbits hg => ?_
  have KX := hY w _ Y
  obtain ⟨C, CA, CN, CL, CP, CD, cs12, cc, PP, D, N, ht, nP⟩ := F w mg _ KX G.T.g
  obtain ⟨hC, hP⟩ := PySem.W.tab_of G.T KX hrec ht
  rw [hname] at hmg
  obtain ⟨fL, fdL, FL, mL, bL⟩ := D.d13.ex
  rw [hmg] at mL
  cases mL
  obtain ⟨oc, od, kV, dc, pm', an, cdv, ct, osl, rfl, lk, hc⟩ := FL.ex
  have ec := PySem.W.law_code KX G.T.g ht hmg (KX _ _ lk) rfl
  have ec' : cdv = .ref cc := ec
  subst ec'
  refine law_callG (cs := [(cc, PP)]) KX G.T.g G.T.b G.T.builtins G.T.nolimit hg (fun p hp => by rw [List.mem_singleton.mp hp]; exact hP) (fun p hp => by rw [List.mem_singleton.mp hp]; exact nP) (fun p hp => by rw [List.mem_singleton.mp hp]; exact hC) G.T.bmain hobj hints (Nat.le_trans hlen (by decide)) ?_
  intro base H hKb hNs hTB hHT hS e0
  obtain ⟨fI, fC, fdI, fdC, LF⟩ := facts (P := l.prog) (w := w) (base := base) D N
  exact law_run lk hc (fun _ _ => .of_eq rfl) LF (hTB _ (List.mem_singleton.mpr rfl)) ⟨rfl, by decide, by decide⟩ e0 (hHT _ (List.mem_singleton.mpr rfl)) hS hlen
end Dt
open PySem PySem.W PyProof.Rows
set_option maxRecDepth 100000 in
set_option maxHeartbeats 0 in
theorem PySem.Challenge.cw_dotread_k13_lines_drawn_by_readings_holds : PySem.Challenge.rw_dotread_k13_lines_drawn_by_readings.Holds := by
  w_on; o_law; k_head; (case hw => w_witness2)
  k_fill
  refine Dt.walk13 (l := PySem.Challenge.rw_dotread_k13_lines_drawn_by_readings) rfl rfl rfl (fun w h Y => PySem.W.km_in_of Y) (by kernel_rfl) ?F
  case F =>
    intro w mg h KX G
    refine' Dt.end_mk13 ⟨Dt.df_mk KX G ?a0 ?l0 ?c0 ?k0 Dt.bnd0, Dt.df_mk KX G ?a1 ?l1 ?c1 ?k1 Dt.bnd1, Dt.df_mk KX G ?a2 ?l2 ?c2 ?k2 Dt.bnd2, Dt.df_mk KX G ?a3 ?l3 ?c3 ?k3 Dt.bnd3, Dt.df_mk KX G ?a4 ?l4 ?c4 ?k4 Dt.bnd4, Dt.df_mk KX G ?a5 ?l5 ?c5 ?k5 Dt.bnd5, Dt.df_mk KX G ?a6 ?l6 ?c6 ?k6 Dt.bnd6, Dt.df_mk KX G ?a7 ?l7 ?c7 ?k7 Dt.bnd7, Dt.df_mk KX G ?a8 ?l8 ?c8 ?k8 Dt.bnd8, Dt.df_mk KX G ?a9 ?l9 ?c9 ?k9 Dt.bnd9, Dt.df_mk KX G ?a10 ?l10 ?c10 ?k10 Dt.bnd10, Dt.df_mk KX G ?a11 ?l11 ?c11 ?k11 Dt.bnd11, Dt.df_mk KX G ?a12 ?l12 ?c12 ?k12 Dt.bnd12, Dt.df_mk KX G ?a13 ?l13 ?c13 ?k13 Dt.bnd13, Dt.df_mk KX G ?a14 ?l14 ?c14 ?k14 Dt.bnd14, Dt.df_mk KX G ?a15 ?l15 ?c15 ?k15 Dt.bnd15, Dt.df_mk KX G ?a16 ?l16 ?c16 ?k16 Dt.bnd16, Dt.df_mk KX G ?a17 ?l17 ?c17 ?k17 Dt.bnd17, Dt.df_mk KX G ?a18 ?l18 ?c18 ?k18 Dt.bnd18, Dt.df_mk KX G ?a19 ?l19 ?c19 ?k19 Dt.bnd19, Dt.df_mk KX G ?a20 ?l20 ?c20 ?k20 Dt.bnd20, Dt.df_mk KX G ?a21 ?l21 ?c21 ?k21 Dt.bnd21, Dt.df_mk KX G ?a22 ?l22 ?c22 ?k22 Dt.bnd22, Dt.df_mk KX G ?a23 ?l23 ?c23 ?k23 Dt.bnd23, Dt.df_mk KX G ?a24 ?l24 ?c24 ?k24 Dt.bnd24, Dt.df_mk KX G ?a25 ?l25 ?c25 ?k25 Dt.bnd25, Dt.df_mk KX G ?a26 ?l26 ?c26 ?k26 Dt.bnd26, Dt.df_mk KX G ?a27 ?l27 ?c27 ?k27 Dt.bnd27, Dt.df_mk KX G ?a28 ?l28 ?c28 ?k28 Dt.bnd28, Dt.df_mk KX G ?a29 ?l29 ?c29 ?k29 Dt.bnd29, Dt.df_mk KX G ?a30 ?l30 ?c30 ?k30 Dt.bnd30, Dt.df_mk KX G ?a31 ?l31 ?c31 ?k31 Dt.bnd31, Dt.df_mk KX G ?a32 ?l32 ?c32 ?k32 Dt.bnd32, Dt.df_mk KX G ?a33 ?l33 ?c33 ?k33 Dt.bnd33, Dt.df_mk KX G ?a34 ?l34 ?c34 ?k34 Dt.bnd34, Dt.dm_mk ?ma0 ?mi0 ?ml0 ?mc0 ?mk0 Dt.bnm0, Dt.dm_mk ?ma1 ?mi1 ?ml1 ?mc1 ?mk1 Dt.bnm1, Dt.dm_mk ?ma2 ?mi2 ?ml2 ?mc2 ?mk2 Dt.bnm2, Dt.dm_mk ?ma3 ?mi3 ?ml3 ?mc3 ?mk3 Dt.bnm3, Dt.dm_mk ?ma4 ?mi4 ?ml4 ?mc4 ?mk4 Dt.bnm4, Dt.dm_mk ?ma5 ?mi5 ?ml5 ?mc5 ?mk5 Dt.bnm5⟩ ⟨mg_none_of KX G ?z0, mg_none_of KX G ?z1, mg_none_of KX G ?z2, mg_none_of KX G ?z3, mg_none_of KX G ?z4, mg_none_of KX G ?z5, mg_none_of KX G ?z6, mg_none_of KX G ?z7, mg_none_of KX G ?z8, mg_none_of KX G ?z9, mg_none_of KX G ?z10, mg_none_of KX G ?z11, mg_none_of KX G ?z12, mg_none_of KX G ?z13, mg_none_of KX G ?z14, mg_none_of KX G ?z15, mg_none_of KX G ?z16, Dt.gli_mk KX G ?i0, Dt.gli_mk KX G ?i1, Dt.gli_mk KX G ?i2, Dt.gli_mk KX G ?i3, Dt.gli_mk KX G ?i4, Dt.gli_mk KX G ?i5, ⟨mg_of KX G ?nC2, ?nx, ?nk, ?nb, ?nt⟩, Dt.exN_mk KX G ?nR2 ?px ?pk2 ?pb ?pt, Dt.exN_mk KX G ?nL2 ?qx ?qk2 ?qb ?qt, Dt.exN_mk KX G ?nP2 ?rx ?rk2 ?rb ?rt, ⟨⟨?tg, ?th, ?to, ?ts⟩, Dt.noa ?tH, Dt.noa ?tS, mg_of KX G ?nA⟩, ?mm, ?mp, mg_of KX G ?nD2, Dt.gs12_mk KX G ?ng0 ?ng1 ?ng2 ?ng3 ?ng4 ?ng5 ?ng6 ?ng7 ?ng8 ?ng9 ?ng10 ?ng11, ⟨by decide, ⟨?e5x1, ?e5x2, ?e5x3, ?e5x4, ?e5x5, ?e5x6, ?e5x7, ?e5x8⟩, Dt.kit_ty (by decide +kernel) ?v5, PySem.W.exm_ref ?yb ?yd ?yy ?ys5, Dt.ks12 (Dt.Cc.of ⟨?cci0, ?ccy0⟩ ?s5x0 ?m5x0) (Dt.Cc.of ⟨?cci1, ?ccy1⟩ ?s5x1 ?m5x1) (Dt.Cc.of ⟨?cci2, ?ccy2⟩ ?s5x2 ?m5x2) (Dt.Cc.of ⟨?cci3, ?ccy3⟩ ?s5x3 ?m5x3) (Dt.Cc.of ⟨?cci4, ?ccy4⟩ ?s5x4 ?m5x4) Dt.kit_self (Dt.Cc.of ⟨?cci6, ?ccy6⟩ ?s5x6 ?m5x6) (Dt.Cc.of ⟨?cci7, ?ccy7⟩ ?s5x7 ?m5x7) (Dt.Cc.of ⟨?cci8, ?ccy8⟩ ?s5x8 ?m5x8) (Dt.Cc.of ⟨?cci9, ?ccy9⟩ ?s5x9 ?m5x9) (Dt.Cc.of ⟨?cci10, ?ccy10⟩ ?s5x10 ?m5x10) (Dt.Cc.of ⟨?cci11, ?ccy11⟩ ?s5x11 ?m5x11)⟩, ⟨by decide, ⟨?e7x1, ?e7x2, ?e7x3, ?e7x4, ?e7x5, ?e7x6, ?e7x7, ?e7x8⟩, Dt.kit_ty (by decide +kernel) ?v7, PySem.W.exm_ref ?yb ?yd ?yy ?ys7, Dt.ks12 (Dt.Cc.of ⟨?cci0, ?ccy0⟩ ?s7x0 ?m7x0) (Dt.Cc.of ⟨?cci1, ?ccy1⟩ ?s7x1 ?m7x1) (Dt.Cc.of ⟨?cci2, ?ccy2⟩ ?s7x2 ?m7x2) (Dt.Cc.of ⟨?cci3, ?ccy3⟩ ?s7x3 ?m7x3) (Dt.Cc.of ⟨?cci4, ?ccy4⟩ ?s7x4 ?m7x4) (Dt.Cc.of ⟨?cci5, ?ccy5⟩ ?s7x5 ?m7x5) (Dt.Cc.of ⟨?cci6, ?ccy6⟩ ?s7x6 ?m7x6) Dt.kit_self (Dt.Cc.of ⟨?cci8, ?ccy8⟩ ?s7x8 ?m7x8) (Dt.Cc.of ⟨?cci9, ?ccy9⟩ ?s7x9 ?m7x9) (Dt.Cc.of ⟨?cci10, ?ccy10⟩ ?s7x10 ?m7x10) (Dt.Cc.of ⟨?cci11, ?ccy11⟩ ?s7x11 ?m7x11)⟩⟩ (Dt.tabm ?ta ?tl ?tc ?tm ?tv) ?np
    (case nA => k_is)
    (case nC2 => k_is)
    (case nR2 => k_is)
    (case nL2 => k_is)
    (case nP2 => k_is)
    (case nD2 => k_is)
    (case ng0 => k_is)
    (case ng1 => k_is)
    (case ng2 => k_is)
    (case ng3 => k_is)
    (case ng4 => k_is)
    (case ng5 => k_is)
    (case ng6 => k_is)
    (case ng7 => k_is)
    (case ng8 => k_is)
    (case ng9 => k_is)
    (case ng10 => k_is)
    (case ng11 => k_is)
    (case a0 => k_is)
    (case l0 => k_is)
    (case c0 => k_is)
    (case k0 => k_is)
    (case a1 => k_is)
    (case l1 => k_is)
    (case c1 => k_is)
    (case k1 => k_is)
    (case a2 => k_is)
    (case l2 => k_is)
    (case c2 => k_is)
    (case k2 => k_is)
    (case a3 => k_is)
    (case l3 => k_is)
    (case c3 => k_is)
    (case k3 => k_is)
    (case a4 => k_is)
    (case l4 => k_is)
    (case c4 => k_is)
    (case k4 => k_is)
    (case a5 => k_is)
    (case l5 => k_is)
    (case c5 => k_is)
    (case k5 => k_is)
    (case a6 => k_is)
    (case l6 => k_is)
    (case c6 => k_is)
    (case k6 => k_is)
    (case a7 => k_is)
    (case l7 => k_is)
    (case c7 => k_is)
    (case k7 => k_is)
    (case a8 => k_is)
    (case l8 => k_is)
    (case c8 => k_is)
    (case k8 => k_is)
    (case a9 => k_is)
    (case l9 => k_is)
    (case c9 => k_is)
    (case k9 => k_is)
    (case a10 => k_is)
    (case l10 => k_is)
    (case c10 => k_is)
    (case k10 => k_is)
    (case a11 => k_is)
    (case l11 => k_is)
    (case c11 => k_is)
    (case k11 => k_is)
    (case a12 => k_is)
    (case l12 => k_is)
    (case c12 => k_is)
    (case k12 => k_is)
    (case a13 => k_is)
    (case l13 => k_is)
    (case c13 => k_is)
    (case k13 => k_is)
    (case a14 => k_is)
    (case l14 => k_is)
    (case c14 => k_is)
    (case k14 => k_is)
    (case a15 => k_is)
    (case l15 => k_is)
    (case c15 => k_is)
    (case k15 => k_is)
    (case a16 => k_is)
    (case l16 => k_is)
    (case c16 => k_is)
    (case k16 => k_is)
    (case a17 => k_is)
    (case l17 => k_is)
    (case c17 => k_is)
    (case k17 => k_is)
    (case a18 => k_is)
    (case l18 => k_is)
    (case c18 => k_is)
    (case k18 => k_is)
    (case a19 => k_is)
    (case l19 => k_is)
    (case c19 => k_is)
    (case k19 => k_is)
    (case a20 => k_is)
    (case l20 => k_is)
    (case c20 => k_is)
    (case k20 => k_is)
    (case a21 => k_is)
    (case l21 => k_is)
    (case c21 => k_is)
    (case k21 => k_is)
    (case a22 => k_is)
    (case l22 => k_is)
    (case c22 => k_is)
    (case k22 => k_is)
    (case a23 => k_is)
    (case l23 => k_is)
    (case c23 => k_is)
    (case k23 => k_is)
    (case a24 => k_is)
    (case l24 => k_is)
    (case c24 => k_is)
    (case k24 => k_is)
    (case a25 => k_is)
    (case l25 => k_is)
    (case c25 => k_is)
    (case k25 => k_is)
    (case a26 => k_is)
    (case l26 => k_is)
    (case c26 => k_is)
    (case k26 => k_is)
    (case a27 => k_is)
    (case l27 => k_is)
    (case c27 => k_is)
    (case k27 => k_is)
    (case a28 => k_is)
    (case l28 => k_is)
    (case c28 => k_is)
    (case k28 => k_is)
    (case a29 => k_is)
    (case l29 => k_is)
    (case c29 => k_is)
    (case k29 => k_is)
    (case a30 => k_is)
    (case l30 => k_is)
    (case c30 => k_is)
    (case k30 => k_is)
    (case a31 => k_is)
    (case l31 => k_is)
    (case c31 => k_is)
    (case k31 => k_is)
    (case a32 => k_is)
    (case l32 => k_is)
    (case c32 => k_is)
    (case k32 => k_is)
    (case a33 => k_is)
    (case l33 => k_is)
    (case c33 => k_is)
    (case k33 => k_is)
    (case a34 => k_is)
    (case l34 => k_is)
    (case c34 => k_is)
    (case k34 => k_is)
    (case ma0 => k_is)
    (case mi0 => k_is)
    (case ml0 => k_is)
    (case mc0 => k_is)
    (case mk0 => k_is)
    (case ma1 => k_is)
    (case mi1 => k_is)
    (case ml1 => k_is)
    (case mc1 => k_is)
    (case mk1 => k_is)
    (case ma2 => k_is)
    (case mi2 => k_is)
    (case ml2 => k_is)
    (case mc2 => k_is)
    (case mk2 => k_is)
    (case ma3 => k_is)
    (case mi3 => k_is)
    (case ml3 => k_is)
    (case mc3 => k_is)
    (case mk3 => k_is)
    (case ma4 => k_is)
    (case mi4 => k_is)
    (case ml4 => k_is)
    (case mc4 => k_is)
    (case mk4 => k_is)
    (case ma5 => k_is)
    (case mi5 => k_is)
    (case ml5 => k_is)
    (case mc5 => k_is)
    (case mk5 => k_is)
    (case z0 => k_is)
    (case z1 => k_is)
    (case z2 => k_is)
    (case z3 => k_is)
    (case z4 => k_is)
    (case z5 => k_is)
    (case z6 => k_is)
    (case z7 => k_is)
    (case z8 => k_is)
    (case z9 => k_is)
    (case z10 => k_is)
    (case z11 => k_is)
    (case z12 => k_is)
    (case z13 => k_is)
    (case z14 => k_is)
    (case z15 => k_is)
    (case z16 => k_is)
    (case i0 => k_is)
    (case i1 => k_is)
    (case i2 => k_is)
    (case i3 => k_is)
    (case i4 => k_is)
    (case i5 => k_is)
    (case nk => k_is)
    (case nb => k_is)
    (case nt => k_is)
    (case nx => first | kernel_rfl | decide +kernel | rfl)
    (case pk2 => k_is)
    (case pb => k_is)
    (case pt => k_is)
    (case px => first | kernel_rfl | decide +kernel | rfl)
    (case qk2 => k_is)
    (case qb => k_is)
    (case qt => k_is)
    (case qx => first | kernel_rfl | decide +kernel | rfl)
    (case rk2 => k_is)
    (case rb => k_is)
    (case rt => k_is)
    (case rx => first | kernel_rfl | decide +kernel | rfl)
    (case tg => k_is)
    (case th => k_is)
    (case to => k_is)
    (case ts => k_is)
    (case tH => k_is)
    (case tS => k_is)
    (case mm => k_is)
    (case mp => k_is)
    (case s5x0 => k_is)
    (case m5x0 => decide)
    (case s5x1 => k_is)
    (case m5x1 => decide)
    (case s5x2 => k_is)
    (case m5x2 => decide)
    (case s5x3 => k_is)
    (case m5x3 => decide)
    (case s5x4 => k_is)
    (case m5x4 => decide)
    (case s5x6 => k_is)
    (case m5x6 => decide)
    (case s5x7 => k_is)
    (case m5x7 => decide)
    (case s5x8 => k_is)
    (case m5x8 => decide)
    (case s5x9 => k_is)
    (case m5x9 => decide)
    (case s5x10 => k_is)
    (case m5x10 => decide)
    (case s5x11 => k_is)
    (case m5x11 => decide)
    (case e5x1 => k_is)
    (case e5x2 => k_is)
    (case e5x3 => k_is)
    (case e5x4 => k_is)
    (case e5x5 => k_is)
    (case e5x6 => k_is)
    (case e5x7 => k_is)
    (case e5x8 => k_is)
    (case v5 => k_is)
    (case ys5 => k_is)
    (case s7x0 => k_is)
    (case m7x0 => decide)
    (case s7x1 => k_is)
    (case m7x1 => decide)
    (case s7x2 => k_is)
    (case m7x2 => decide)
    (case s7x3 => k_is)
    (case m7x3 => decide)
    (case s7x4 => k_is)
    (case m7x4 => decide)
    (case s7x5 => k_is)
    (case m7x5 => decide)
    (case s7x6 => k_is)
    (case m7x6 => decide)
    (case s7x8 => k_is)
    (case m7x8 => decide)
    (case s7x9 => k_is)
    (case m7x9 => decide)
    (case s7x10 => k_is)
    (case m7x10 => decide)
    (case s7x11 => k_is)
    (case m7x11 => decide)
    (case e7x1 => k_is)
    (case e7x2 => k_is)
    (case e7x3 => k_is)
    (case e7x4 => k_is)
    (case e7x5 => k_is)
    (case e7x6 => k_is)
    (case e7x7 => k_is)
    (case e7x8 => k_is)
    (case v7 => k_is)
    (case ys7 => k_is)
    (case yb => k_is)
    (case yd => k_is)
    (case yy => k_is)
    (case cci0 => k_is)
    (case ccy0 => k_is)
    (case cci1 => k_is)
    (case ccy1 => k_is)
    (case cci2 => k_is)
    (case ccy2 => k_is)
    (case cci3 => k_is)
    (case ccy3 => k_is)
    (case cci4 => k_is)
    (case ccy4 => k_is)
    (case cci5 => k_is)
    (case ccy5 => k_is)
    (case cci6 => k_is)
    (case ccy6 => k_is)
    (case cci7 => k_is)
    (case ccy7 => k_is)
    (case cci8 => k_is)
    (case ccy8 => k_is)
    (case cci9 => k_is)
    (case ccy9 => k_is)
    (case cci10 => k_is)
    (case ccy10 => k_is)
    (case cci11 => k_is)
    (case ccy11 => k_is)
    (case ta => k_is)
    (case tl => k_is)
    (case tc => rfl)
    (case tm => k_is)
    (case tv => rfl)
    (case np => first | kernel_rfl | decide +kernel | rfl)
