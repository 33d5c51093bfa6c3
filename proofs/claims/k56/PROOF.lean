import PyProof.Rows.All
import Wide.All
import OpenK.AllK
import Wide.FinOn
import HandS.ForMost
import HandS.ForExc
import HandS.IsInst
import HandS.Walk
import HandS.More
import HandS.Dict
import HandS.Style
import HandS.SortInts
import HandS.DictComp
import HandS.Zip
import HandS.Deep
import HandS.TryOnly
import HandS.TupAny
import HandS.TupMul
import KE.GoesMore
import PySem.Challenge.RW_loadanywhere_k56_reasons
import HandS.SetFor
import HandS.Strs
import HandS.ExcInit
import HandS.ExcField
import HandS.Defaults
import HandS.Lambda
import HandS.EndTab
import Wide.Once
import KE.KStateDown
import Lean
import HandS.Ends
import HandS.Head0
import HandS.Head1
import HandS.Head2
import HandS.HeadHook1
import HandS.HeadHook2
import HandS.HeadHook3
import HandS.HeadHook4
import HandS.HeadWalk
set_option Elab.async false
set_option linter.all false
set_option maxRecDepth 100000
set_option maxHeartbeats 0
namespace DR
open PySem PySem.Spec PyProof.Rows L2
/-! ### the text by places -/
def topS (i : Nat) : Stmt := PySem.Challenge.pw_loadanywhere_k56_reasons.main.body.getD i (.Pass ⟨0, 0, 0, 0⟩)
/-- a def of the text that stands at a global name and keeps its promise -/
structure Has (P : Program) (w : World) (K : PySem.W.Frag) (mg : Str → Option Value) (base : Heap) (CX : CXT) (k : Nat) (x : Str) (ps : List Str) (sp : Sp) : Prop where
  ex : ∃ (f : Addr) (fd : FuncData), mg x = some (.ref f) ∧ PySem.W.keepIn K (.ref f) = true ∧ Binds K fd ps [] ∧ FnOk P w K mg base CX k f fd ps sp
theorem Has.mono {P : Program} {w : World} {K : PySem.W.Frag} {mg : Str → Option Value} {base : Heap} {CX : CXT} {j k : Nat} {x : Str} {ps : List Str} {sp : Sp} (h : Has P w K mg base CX j x ps sp) (l : j ≤ k) : Has P w K mg base CX k x ps sp := by
  obtain ⟨f, fd, a, b, c, d⟩ := h.ex
  exact ⟨f, fd, a, b, c, d.mono l⟩
section
variable {X : Cx} {CX : CXT} {k : Nat} {ps : List Str} {sp : Sp} {E : XK} {x : Str} {p pos : Pos} {e : Expr} {es : List Expr} {t : TA}
theorem pe_callH (F : Has X.prog X.w X.K X.mg X.base CX k x ps sp) (hr : Room k X.A) (hg : Gl X x) (hx : Passes CX X E)
    (ha : PA X (e :: es) t) (hdb : (x == ("__debug__" : Str)) = false := by decide) (he : starEach (e :: es) X.env = (false, eval e X.env) :: starEach es X.env := by rfl) (hpl : (backTo pos (starEach es X.env)).any (·.1) = false := by rfl) :
    PE X (.Call (.Name x p) (e :: es) [] pos) (tCall sp [] E t) := by
  obtain ⟨f, fd, a, b, c, d⟩ := F.ex
  exact pe_call d hr hg a b c .nil hx ha hdb he hpl
end
/-- the names of built-ins that the law and the program ask -/
structure Bi (mg : Str → Option Value) : Prop where
  len : mg "len" = none
  int : mg "int" = none
  str : mg "str" = none
  bool : mg "bool" = none
  list : mg "list" = none
  tuple : mg "tuple" = none
  isinstance : mg "isinstance" = none
  all : mg "all" = none
  sorted : mg "sorted" = none
  range : mg "range" = none
  enumerate : mg "enumerate" = none
  zip : mg "zip" = none
  dict : mg "dict" = none
  min : mg "min" = none
  set : mg "set" = none

/-! ### things: data, and the empty dict -/
theorem rd_same {H H' : Hp} {a : Addr} {u : HO} (e : Same H H') (h : Rd H a u) : Rd H' a u := by
  rcases h with h | ⟨o, h⟩
  · exact .inl (e _ _ h)
  · exact .inr ⟨o, e _ _ h⟩
theorem sqL_same {K : PySem.W.Frag} {H H' : Hp} {a : Addr} {xs : List V} (e : Same H H') (h : SqL K H a xs) : SqL K H' a xs := e.seq h
theorem sqT_same {K : PySem.W.Frag} {H H' : Hp} {a : Addr} {xs : List V} (e : Same H H') (h : SqT K H a xs) : SqT K H' a xs := by
  rcases h with h | h
  · exact .inl (rd_same e h)
  · exact .inr h
mutual
theorem dp_same {K : PySem.W.Frag} {H H' : Hp} (e : Same H H') : ∀ {v : V} {d : PyData}, Dp K H v d → Dp K H' v d
  | _, _, .non => .non
  | _, _, .bl b => .bl b
  | _, _, .int i => .int i
  | _, _, .str x => .str x
  | _, _, .lst s a => .lst (sqL_same e s) (dps_same e a)
  | _, _, .tup s a => .tup (sqT_same e s) (dps_same e a)
theorem dps_same {K : PySem.W.Frag} {H H' : Hp} (e : Same H H') : ∀ {vs : List V} {ds : List PyData}, DpAll K H vs ds → DpAll K H' vs ds
  | _, _, .nil => .nil
  | _, _, .cons h t => .cons (dp_same e h) (dps_same e t)
end
theorem same_new {H : Hp} {p : Addr} {o : HO} (h : H p = none) : Same H (upd H p o) := fun b x e => by
  rw [upd_ne (ne_of_none e h)]
  exact e
/-- data, or a dict -/
inductive Th (K : PySem.W.Frag) (H : Hp) : V → PyData → Prop
  | dat {v : V} {d : PyData} : Dp K H v d → Th K H v d
  | dct {a : Addr} {kvs : List (Key × V)} : H a = some (.dK kvs) → Th K H (.ref a) (.dict [])
theorem th_same {K : PySem.W.Frag} {H H' : Hp} (e : Same H H') {v : V} {d : PyData} : Th K H v d → Th K H' v d
  | .dat h => .dat (dp_same e h)
  | .dct h => .dct (e _ _ h)
def tyN : PyData → String
  | .none => "NoneType"
  | .bool _ => "bool"
  | .int _ => "int"
  | .str _ => "str"
  | .list _ => "list"
  | .tuple _ => "tuple"
  | .dict _ => "dict"
theorem ty_list {K : PySem.W.Frag} {H : Hp} {a : Addr} {xs : List V} (h : SqL K H a xs) : TyX K H (.ref a) (.type "list") := by
  rcases h with (h | ⟨o, h⟩) | ⟨o, its, n, h, c, _⟩
  · exact .base (.lst h)
  · exact .base (.frz h)
  · exact .kList h c
theorem ty_tup {K : PySem.W.Frag} {H : Hp} {a : Addr} {xs : List V} (h : SqT K H a xs) : TyX K H (.ref a) (.type "tuple") := by
  rcases h with (h | ⟨o, h⟩) | ⟨o, its, n, h, c, _⟩
  · exact .base (.tup h)
  · exact .fTuple h
  · exact .kTuple h c
theorem th_ty {K : PySem.W.Frag} {H : Hp} {v : V} {d : PyData} (h : Th K H v d) : TyX K H v (.type (tyN d)) := by
  cases h with
  | dct h => exact .base (.dK h)
  | dat h =>
    cases h with
    | non => exact .base .non
    | bl b => exact .base (.bl b)
    | int i => exact .base (.int i)
    | str x => exact .base (.str x)
    | lst s _ => exact ty_list s
    | tup s _ => exact ty_tup s
def isI : PyData → Bool
  | .int _ => true
  | _ => false
def isIB : PyData → Bool
  | .int _ => true
  | .bool _ => true
  | _ => false
def isB : PyData → Bool
  | .bool _ => true
  | _ => false
def isS : PyData → Bool
  | .str _ => true
  | _ => false
def isR : PyData → Bool
  | .list _ => true
  | .tuple _ => true
  | _ => false
def tyNs : List String := ["NoneType", "bool", "int", "str", "list", "tuple", "dict"]
theorem tyN_mem (d : PyData) : tyN d ∈ tyNs := by cases d <;> simp [tyN, tyNs]
theorem kb_int : ∀ n ∈ tyNs, kitB n "int" = some (n == "int" || n == "bool") := by decide +kernel
theorem kb_bool : ∀ n ∈ tyNs, kitB n "bool" = some (n == "bool") := by decide +kernel
theorem kb_str : ∀ n ∈ tyNs, kitB n "str" = some (n == "str") := by decide +kernel
theorem kb_list : ∀ n ∈ tyNs, kitB n "list" = some (n == "list") := by decide +kernel
theorem kb_tup : ∀ n ∈ tyNs, kitB n "tuple" = some (n == "tuple") := by decide +kernel
theorem kit_int {K : PySem.W.Frag} (d : PyData) : PySem.W.kitOne K (.type (tyN d)) (.type "int") = some (isIB d) := by
  have h := kb_int _ (tyN_mem d)
  have e : (tyN d == "int" || tyN d == "bool") = isIB d := by cases d <;> rfl
  rw [e] at h
  exact kit_ty h
theorem kit_bool {K : PySem.W.Frag} (d : PyData) : PySem.W.kitOne K (.type (tyN d)) (.type "bool") = some (isB d) := by
  have h := kb_bool _ (tyN_mem d)
  have e : (tyN d == "bool") = isB d := by cases d <;> rfl
  rw [e] at h
  exact kit_ty h
theorem kit_str {K : PySem.W.Frag} (d : PyData) : PySem.W.kitOne K (.type (tyN d)) (.type "str") = some (isS d) := by
  have h := kb_str _ (tyN_mem d)
  have e : (tyN d == "str") = isS d := by cases d <;> rfl
  rw [e] at h
  exact kit_ty h
theorem kit_row {K : PySem.W.Frag} (d : PyData) : PySem.W.kitAny K (.type (tyN d)) [.type "list", .type "tuple"] = some (isR d) := by
  have h1 := kb_list _ (tyN_mem d)
  have h2 := kb_tup _ (tyN_mem d)
  refine kitAny_cons (kit_ty h1) (fun z => kitAny_cons (kit_ty h2) (fun z2 => ?_) fun z2 => ?_) fun z => ?_
  all_goals
    revert z
    try revert z2
    cases d <;> simp [tyN, isR, kitAny_nil]
/-- isinstance of a thing, one class -/
theorem isi1 {K : PySem.W.Frag} {H : Hp} {v : V} {d : PyData} {n : String} {b : Bool} {Q : VK} (h : Th K H v d) (k : PySem.W.kitOne K (.type (tyN d)) (.type n) = some b) (q : Q (.bl b) H) : rIsi K [v, .ty n] H Q :=
  ⟨v, .ty n, _, _, b, rfl, .ty n, th_ty h, k, q⟩
def spIsInt (K : PySem.W.Frag) : Sp := fun vs H Q _ => ∃ v d, vs = [v] ∧ Th K H v d ∧ Q (.bl (isI d)) H
def spIsRow (K : PySem.W.Frag) : Sp := fun vs H Q _ => ∃ v d, vs = [v] ∧ Th K H v d ∧ ∀ H', Same H H' → Q (.bl (isR d)) H'
/-- the items of a list or tuple -/
def items : PyData → Option (List PyData)
  | .list xs => some xs
  | .tuple xs => some xs
  | _ => none
def isRof (d : PyData) (n : Int) : Bool := match items d with
  | some xs => decide ((xs.length : Int) = n)
  | none => false
def spIsRowOf (K : PySem.W.Frag) : Sp := fun vs H Q _ => ∃ v d n, vs = [v, .int n] ∧ Th K H v d ∧ ∀ H', Same H H' → Q (.bl (isRof d n)) H'
theorem dps_len {K : PySem.W.Frag} {H : Hp} : ∀ {vs : List V} {ds : List PyData}, DpAll K H vs ds → vs.length = ds.length
  | _, _, .nil => rfl
  | _, _, .cons _ t => congrArg (· + 1) (dps_len t)
/-- a thing that is a row: its place and items -/
theorem th_row {K : PySem.W.Frag} {H : Hp} {v : V} {d : PyData} (h : Th K H v d) {ds : List PyData} (e : items d = some ds) : ∃ a xs, v = .ref a ∧ (SqL K H a xs ∨ SqT K H a xs) ∧ DpAll K H xs ds := by
  cases h with
  | dct h => cases e
  | dat h =>
    cases h with
    | non => cases e
    | bl b => cases e
    | int i => cases e
    | str x => cases e
    | lst s t =>
      cases e
      exact ⟨_, _, rfl, .inl s, t⟩
    | tup s t =>
      cases e
      exact ⟨_, _, rfl, .inr s, t⟩
theorem isR_items (d : PyData) : isR d = (items d).isSome := by cases d <;> rfl
abbrev sIsInt : Stmt := topS 10
abbrev sIsRow : Stmt := topS 11
abbrev sIsRowOf : Stmt := topS 12
abbrev sIsName : Stmt := topS 13
theorem scIsInt : FnScope ["thing"] ["thing"] (defScope sIsInt) := ⟨rfl, rfl, rfl, by decide +kernel, rfl, by decide +kernel, by decide +kernel⟩
theorem scIsRow : FnScope ["thing"] ["thing"] (defScope sIsRow) := ⟨rfl, rfl, rfl, by decide +kernel, rfl, by decide +kernel, by decide +kernel⟩
theorem scIsRowOf : FnScope ["thing", "many"] ["thing", "many"] (defScope sIsRowOf) := ⟨rfl, rfl, rfl, by decide +kernel, rfl, by decide +kernel, by decide +kernel⟩
theorem scIsName : FnScope ["thing", "letter"] ["thing"] (defScope sIsName) := ⟨rfl, rfl, rfl, by decide +kernel, rfl, by decide +kernel, by decide +kernel⟩
def lettersS : Str := "abcdefghijklmnopqrstuvwxyz"
def isNmS (s : Str) : Bool := decide (1 ≤ (s.length : Int)) && (decide ((s.length : Int) ≤ 8) && s.cps.toList.all fun c => decide (c ∈ lettersS.cps.toList))
def isNm : PyData → Bool
  | .str s => isNmS s
  | _ => false
/-- a thing whose text, if it is one, is not too long -/
def shortS : PyData → Prop
  | .str s => s.length ≤ 1000
  | _ => True
def spIsName (K : PySem.W.Frag) : Sp := fun vs H Q _ => ∃ v d, vs = [v] ∧ Th K H v d ∧ shortS d ∧ ∀ H', Same H H' → Q (.bl (isNm d)) H'
section
variable {P : Program} {w : World} {K : PySem.W.Frag} {mg : Str → Option Value} {base : Heap}
theorem ok_isInt {f : Addr} {fd : FuncData} (F : Fun K "is_integer" "is_integer" sIsInt f fd) (T : Bi mg) : FnOk P w K mg base CX0 1 f fd ["thing"] (spIsInt K) := by
  refine F.ok scIsInt (fun vs H Q E h => ?_) (fun cdv A outer s H vs Q E hr h => ?_)
  · obtain ⟨v, d, rfl, _⟩ := h
    rfl
  · obtain ⟨v, d, rfl, th, q⟩ := h
    refine ⟨_, (pss_one (ps_ret (pe_and (pe_callB call_isi (by rfl) T.isinstance (by decide +kernel) (pa_cons (pv 0) (pa_cons (pe_bltn (v := .ty "int") (by rfl) T.int (by decide +kernel) rfl) pa_nil))) (pe_one (pe_not (pe_callB call_isi (by rfl) T.isinstance (by decide +kernel) (pa_cons (pv 0) (pa_cons (pe_bltn (v := .ty "bool") (by rfl) T.bool (by decide +kernel) rfl) pa_nil)))))))), ?_⟩
    refine ⟨_, rfl, v, _, _, _, _, rfl, .ty "int", th_ty th, kit_int d, _, rfl, ?_⟩
    cases e : isIB d with
    | false =>
      refine iteF ?_
      have z : isI d = false := by cases d <;> first | rfl | cases e
      rw [z] at q
      exact q
    | true =>
      refine iteT ⟨_, rfl, v, _, _, _, _, rfl, .ty "bool", th_ty th, kit_bool d, _, rfl, ?_⟩
      have z : isI d = !isB d := by cases d <;> first | rfl | cases e
      rw [z] at q
      exact q
theorem ok_isRow {f : Addr} {fd : FuncData} (F : Fun K "is_row" "is_row" sIsRow f fd) (T : Bi mg) : FnOk P w K mg base CX0 1 f fd ["thing"] (spIsRow K) := by
  refine F.ok scIsRow (fun vs H Q E h => ?_) (fun cdv A outer s H vs Q E hr h => ?_)
  · obtain ⟨v, d, rfl, _⟩ := h
    rfl
  · obtain ⟨v, d, rfl, th, q⟩ := h
    refine ⟨_, (pss_one (ps_ret (pe_callB call_isiT (by rfl) T.isinstance (by decide +kernel) (pa_cons (pv 0) (pa_cons (pe_tup (pa_cons (pe_bltn (v := .ty "list") (by rfl) T.list (by decide +kernel) rfl) (pa_cons (pe_bltn (v := .ty "tuple") (by rfl) T.tuple (by decide +kernel) rfl) pa_nil))) pa_nil))))), ?_⟩
    refine ⟨_, rfl, (by show 2 ≤ sizeLine; decide), fun p hp => ?_⟩
    refine ⟨v, p, _, _, _, _, rfl, upd_same, .cons (.ty "list") (.cons (.ty "tuple") .nil), th_ty (th_same (same_new hp) th), kit_row d, q _ (same_new hp)⟩
theorem ok_isRowOf {f : Addr} {fd : FuncData} (F : Fun K "is_row_of" "is_row_of" sIsRowOf f fd) (T : Bi mg) (G : Has P w K mg base CX0 1 "is_row" ["thing"] (spIsRow K)) : FnOk P w K mg base CX0 2 f fd ["thing", "many"] (spIsRowOf K) := by
  refine F.ok scIsRowOf (fun vs H Q E h => ?_) (fun cdv A outer s H vs Q E hr h => ?_)
  · obtain ⟨v, d, n, rfl, _⟩ := h
    rfl
  · obtain ⟨v, d, n, rfl, th, q⟩ := h
    refine ⟨_, (pss_one (ps_ret (pe_and (pe_callH G hr (by rfl) pass0 (pa_cons (pv 0) pa_nil)) (pe_one (pe_cmpR op_eq (pe_callB call_len_seq (by rfl) T.len (by decide +kernel) (pa_cons (pv 0) pa_nil)) (pv 1) (nomark _)))))), ?_⟩
    refine ⟨_, rfl, v, d, rfl, th, fun H' sm => ⟨_, rfl, ?_⟩⟩
    rw [isR_items]
    have q' := q H' sm
    unfold isRof at q'
    cases e : items d with
    | none =>
      rw [e] at q'
      exact iteF q'
    | some ds =>
      rw [e] at q'
      obtain ⟨a, xs, rfl, hs, ha⟩ := th_row (th_same sm th) e
      refine iteT ⟨_, rfl, a, xs, rfl, hs, _, rfl, rfl, ?_⟩
      rw [dps_len ha]
      have z : decide (V.int (ds.length : Int) = V.int n) = decide ((ds.length : Int) = n) := by
        by_cases c : (ds.length : Int) = n
        · rw [c]; simp
        · rw [decide_eq_false c]
          exact decide_eq_false fun z => c (V.int.inj z)
      rw [z]
      exact q'
theorem yes_go {σ : L2.St} {H : Hp} {F : Bool → Hp → Prop} (h : F true H) : tYes σ H F := h
theorem ok_isName {f : Addr} {fd : FuncData} {t : Tok} (F : Fun K "is_name" "is_name" sIsName f fd) (T : Bi mg) (gL : mg "LETTERS" = some (.str lettersS t)) : FnOk P w K mg base CX0 1 f fd ["thing"] (spIsName K) := by
  refine F.ok scIsName (fun vs H Q E h => ?_) (fun cdv A outer s H vs Q E hr h => ?_)
  · obtain ⟨v, d, rfl, _⟩ := h
    rfl
  · obtain ⟨v, d, rfl, th, sh, q⟩ := h
    refine ⟨_, (pss_cons (ps_if (PW.pt (pw_or (pt_not (pt_val (pe_callB call_isi (by rfl) T.isinstance (by decide +kernel) (pa_cons (pv 0) (pa_cons (pe_bltn (v := .ty "str") (by rfl) T.str (by decide +kernel) rfl) pa_nil))))) (pw_or1 (pt_not (pt_chain op_le op_le pe_int (pe_callB call_len_str (by rfl) T.len (by decide +kernel) (pa_cons (pv 0) pa_nil)) pe_int))))) (pss_one (ps_ret pe_bl)) pss_nil)
      (pss_one (ps_ret (pe_callB (cr_all rfl) (by rfl) T.all (by decide +kernel) (pa_cons (pe_lc (own := [("letter", 1)]) (g := gName 1) (tt := tYes) rfl scIsName.nd (pi_str (pv 0)) (blkOk_by (N := ["thing", "letter"]) (sc := defScope sIsName) (by decide +kernel)) (fun _ _ _ _ _ => pg_name (i := 1) scIsName.nd rfl (.inl rfl)) (fun _ _ _ _ _ => pts_nil) (fun _ _ _ _ _ => (pe_cmpR op_in_sign (pv 1) (pe_glob (v := .str lettersS) rfl gL ⟨_, rfl⟩) (by rfl)))) pa_nil))))), ?_⟩
    refine ⟨_, rfl, v, _, _, _, _, rfl, .ty "str", th_ty th, kit_str d, _, rfl, ?_⟩
    cases d with
    | str s =>
      obtain rfl : v = .str s := by
        cases th with
        | dat h => cases h; rfl
      have hl : s.length ≤ sizeLine := Nat.le_trans sh (by decide)
      refine iteF ⟨_, rfl, s, rfl, hl, _, _, rfl, rfl, _, rfl, ?_⟩
      have q0 : Q (.bl (isNmS s)) H := q H (Same.refl H)
      unfold isNmS at q0
      cases c1 : decide (1 ≤ (s.length : Int)) with
      | false =>
        rw [c1] at q0
        exact iteF ⟨_, rfl, iteT q0⟩
      | true =>
        refine iteT ⟨_, _, rfl, rfl, _, rfl, ?_⟩
        cases c2 : decide ((s.length : Int) ≤ 8) with
        | false =>
          rw [c1, c2] at q0
          exact iteT q0
        | true =>
          refine iteF ⟨_, rfl, s, rfl, fun D hD => ?_⟩
          have e1 : (isNmS s) = s.cps.toList.all fun c => decide (c ∈ lettersS.cps.toList) := by
            unfold isNmS
            rw [c1, c2]
            rfl
          refine lc_it (walk_str (z := s)) (fun i H' => (∀ b o, b ≠ D → H b = some o → H' b = some o) ∧ H' D = some (.lst (((s.cps.toList.take i).map fun c => decide (c ∈ lettersS.cps.toList)).map V.bl))) ⟨fun b o hb e => by rw [upd_ne hb]; exact e, upd_same⟩ (fun _ _ _ _ => trivial) ?_ ?_
          · rintro i x H1 H2 hi ⟨kp, hd⟩ ⟨rfl, c, hc, rfl⟩
            have hc' : s.cps.toList[i]? = some c := by simpa using hc
            refine ⟨rfl, ?_⟩
            refine yes_go (iteT ?_)
            refine ⟨_, rfl, c, lettersS, rfl, rfl, _, hd, ?_, fun b o hb e => ?_, ?_⟩
            · rw [List.length_map, List.length_map, List.length_take]
              refine Nat.lt_of_le_of_lt (Nat.min_le_right _ _) (Nat.lt_of_le_of_lt (m := 1000) ?_ (by decide))
              have e2 : s.cps.toList.length = s.length := by simp [Str.length]
              have sh' : s.length ≤ 1000 := sh
              omega
            · rw [upd_ne hb]
              exact kp b o hb e
            · rw [upd_same, List.take_add_one, hc']
              simp
          · rintro H1 ⟨kp, hd⟩
            refine ⟨D, _, rfl, SqL.of hd, ?_⟩
            have e2 : s.cps.toList.take s.cps.size = s.cps.toList := by
              rw [← Array.length_toList]
              exact List.take_length
            have e3 : ((s.cps.toList.take s.cps.size).map fun c => decide (c ∈ lettersS.cps.toList)).all id = isNm (.str s) := by
              rw [e2, List.all_map]
              exact e1.symm
            rw [e3]
            exact q H1 fun b o e => kp b o (ne_of_none e hD) e
    | none => exact iteT (q H (Same.refl H))
    | bool b => exact iteT (q H (Same.refl H))
    | int i => exact iteT (q H (Same.refl H))
    | list xs => exact iteT (q H (Same.refl H))
    | tuple xs => exact iteT (q H (Same.refl H))
    | dict xs => exact iteT (q H (Same.refl H))
end

/-! ### enumerate over a tuple -/
open AutoSeq1 (wpAny_loadPart') in
theorem meets_enumT (tt : Addr) (its : Array Value) (ot : Obj) (co : ot.cls = .type "tuple") (n : Nat) (dd : ot.data = .seq its n) :
    Meets (Builtin.«enumerate.__new__» ⟨[.type "enumerate", .ref tt], []⟩) (fun _ R t => t.heap.get? tt = some ot ∧
      R (.ok (.ret (.ref (t.heap.push { cls := .type "tuple_iterator", data := .fields #[.ref tt, .int 0 0] }).objs.size)))
        { t with heap := (t.heap.push { cls := .type "tuple_iterator", data := .fields #[.ref tt, .int 0 0] }).push { cls := .type "enumerate", data := .fields #[.none, .bool false, .ref t.heap.objs.size, rawInt 0, .none, .none] } }) :=
  .of_wp fun prog w A R t goal => by
    obtain ⟨hp, gg, dp, tk, os⟩ := t
    obtain ⟨get, goal⟩ := goal
    obtain ⟨c0, d0, dt0, s0⟩ := ot
    dsimp only at co dd
    subst co
    subst dd
    have below := sub_enumerate
    have isT : Heap.IsTuple (Shared.heap ⟨hp, gg, dp, tk, os⟩) tt its := ⟨_, get, rfl, n, rfl⟩
    wp_walk using wpAny_loadPart' get
    refine wpAny_stack_any fun st => wpAny_pure ?_
    split
    · rename_i c _ _ _ _ _
      cases (c == Value.type "enumerate") <;>
      · wp_walk using wpAny_loadPart' get, wpAny_pyIter_tuple isT
        exact ⟨_, rfl, goal⟩
    · wp_walk using wpAny_loadPart' get, wpAny_pyIter_tuple isT
      exact ⟨_, rfl, goal⟩
theorem call_enumT {prog : Program} {w : World} {A : Around} {E : Value → Shared → Prop} {t : Shared} {tt : Addr} {its : Array Value} {Q : Value → Shared → Prop} (isT : t.heap.IsTuple tt its)
    (go : ∀ g, IsEnum g (t.heap.objs.size + 1) t.heap.objs.size 0 .none → g.IsTupleIter t.heap.objs.size tt 0 → (∀ b o, t.heap.get? b = some o → g.get? b = some o) → Q (.ref (t.heap.objs.size + 1)) { t with heap := g }) :
    wpAny (model prog w) A (call (.type "enumerate") [.ref tt]) Q E t := by
  obtain ⟨ot, get, co, n, dd⟩ := isT
  refine callType_new F.called_enumerate (by decide) (F.typeCall_enumerate_1 _) (F.newCall_enumerate_1 _) (fun obj => F.args_object_init_2 obj _) F.entry_enumerate_new (meets_enumT tt its ot co n dd) ⟨get, ?_⟩
  let oi : Obj := { cls := .type "tuple_iterator", data := .fields #[.ref tt, .int 0 0] }
  have sz : (t.heap.push oi).objs.size = t.heap.objs.size + 1 := Heap.size_push ..
  have eq2 : (t.heap.push { cls := .type "tuple_iterator", data := .fields #[.ref tt, .int 0 0] }).objs.size = t.heap.objs.size + 1 := sz
  show _ ∧ _
  rw [eq2]
  have top : IsEnum ((t.heap.push oi).push { cls := .type "enumerate", data := .fields #[.none, .bool false, .ref t.heap.objs.size, rawInt 0, .none, .none] }) (t.heap.objs.size + 1) t.heap.objs.size 0 .none := by
    have z := Heap.get?_push_size (t.heap.push oi) (o := { cls := .type "enumerate", data := .fields #[.none, .bool false, .ref t.heap.objs.size, rawInt 0, .none, .none] }) rfl
    rw [sz] at z
    exact z
  refine ⟨⟨_, top, rfl⟩, go _ top ⟨oi, Heap.get?_push_of_some _ (Heap.get?_push_size _ rfl), rfl, rfl⟩ fun b o e => Heap.get?_push_of_some _ (Heap.get?_push_of_some _ e)⟩
/-- the tuple at a, each item in a new pair -/
def Itu (K : PySem.W.Frag) (a : Addr) : It where
  go := fun i H => ∃ (xs : List V) (x : V), SqT K H a xs ∧ xs[i]? = some x
  yld := fun i H v H' => ∃ T x, v = .ref T ∧ H T = none ∧ H' = upd H T (.tup [.int (i : Nat), x]) ∧ ∀ xs, SqT K H a xs → xs[i]? = some x
  stop := fun i H => ∃ xs : List V, SqT K H a xs ∧ xs.length ≤ i
theorem turn_enumT {P : Program} {w : World} {K : PySem.W.Frag} {elts : List Expr} {kk : Nat} {tpos : Pos} (a e it : Addr) (ae : a ≠ e) (ai : a ≠ it) :
    Turn P w K (.Tuple elts kk tpos) (Itu K a) [e, it] e (fun i h => (∃ old, IsEnum h e it ((i : Nat) : Int) old) ∧ h.IsTupleIter it a i ∧ e ≠ it) where
  mem := List.mem_cons_self ..
  obj := by
    intro i h st b hb
    obtain ⟨⟨old, he⟩, ⟨o, ho, hc, hd⟩, _⟩ := st
    rcases List.mem_cons.mp hb with rfl | hb
    · exact ⟨_, he, fun v q => nomatch q⟩
    · obtain rfl := List.mem_singleton.mp hb
      exact ⟨o, ho, fun v q => by rw [hd] at q; cases q⟩
  keep := by
    intro i h h' st k
    obtain ⟨⟨old, he⟩, hi, hne⟩ := st
    exact ⟨⟨old, k e (by simp) _ he⟩, hi.at fun o q => k it (by simp) o q, hne⟩
  item := by
    intro X hP hw hK hc i pins s σ H E I hf st hg
    subst hP hw hK
    obtain ⟨⟨old, he⟩, hit, hne⟩ := st
    obtain ⟨xs, x, hq, hx⟩ := hg
    obtain ⟨its, rv, p, hz⟩ := I.tuple hq
    obtain ⟨u, hu, ru⟩ := rv.get hx
    have elt : e < s.heap.objs.size := Heap.lt_size he
    have ilt : it < s.heap.objs.size := by
      obtain ⟨_, q, _⟩ := hit
      exact Heap.lt_size q
    have DD := Draws.tuple (prog := X.prog) (w := X.w) (A := X.A.in1) (I.ok.hd hc) it a ai its.toArray
    have hlen : i < its.toArray.size := by
      have : its[i]? = some u := hu
      have := (List.getElem?_eq_some_iff.mp this).1
      simpa using this
    have ef : e ∉ ([it, a] : List Addr) := by simp [hne, ae.symm]
    refine wpAny_pyNext_enum_itemD DD he ⟨hit, (show s.heap.IsTuple a its.toArray from p)⟩ hlen hne ef fun y h' tk hy ho hs' hT hsz hk => ?_
    obtain ⟨hit', _⟩ := hs'
    obtain rfl : y = u := by
      have q : its.toArray[i]? = some y := hy
      rw [List.getElem?_toArray, hu] at q
      exact (Option.some.inj q).symm
    refine ⟨_, rfl, wpAny_letOwnedTupleGo_enum (s := { s with heap := h', toks := tk + 1 }) ho fun h'' he' sb => ?_⟩
    have hT2 : h''.get? s.heap.objs.size = some { cls := .type "tuple", data := .seq #[.int i tk, y] } := (sb.2 _ (Nat.ne_of_gt elt)).trans hT
    have new : ObjOk X.prog X.w (upd H s.heap.objs.size (.tup [.int (i : Nat), x])) h'' s.heap.objs.size (.tup [.int (i : Nat), x]) :=
      ⟨by show 2 ≤ sizeLine; decide, [.int i tk, y], .cons ⟨_, rfl⟩ (.cons ru .nil), ⟨_, hT2, rfl, _, rfl⟩⟩
    have I1 : Inv X pins σ (upd H s.heap.objs.size (.tup [.int (i : Nat), x])) { s with heap := h'', toks := tk + 1 } :=
      I.turnedNew (ch := [e, it]) (fun b ob hb q => (sb.2 b (fun z => hb (by simp [z]))).trans (hk b ob (fun z => hb (by simp [z])) (fun z => hb (by simp [z])) q)) hf (Nat.le_refl _) new
    refine ⟨.ref s.heap.objs.size, _, I1, rfl, ⟨_, x, rfl, I.hok.fresh (Nat.le_refl _), rfl, fun ys hy => by rw [I.tuple_inj hy hq]; exact hx⟩, ⟨⟨y, ?_⟩, hit'.at fun o q => (sb.2 it (Ne.symm hne)).trans q, hne⟩, fun b hb => ?_⟩
    · rw [show ((i + 1 : Nat) : Int) = (i : Int) + 1 by omega]
      exact he'
    · have blt : b < s.heap.objs.size := by
        rcases List.mem_cons.mp hb with rfl | hb
        · exact elt
        · obtain rfl := List.mem_singleton.mp hb
          exact ilt
      rw [upd_ne (Nat.ne_of_lt blt)]
      exact (hf b hb).1
  done := by
    intro X hP hw hK hc i pins s σ H E I hf st hg
    subst hP hw hK
    obtain ⟨⟨old, he⟩, hit, hne⟩ := st
    obtain ⟨xs, hq, hx⟩ := hg
    obtain ⟨its, rv, p, hz⟩ := I.tuple hq
    obtain ⟨f0, f1, f2, f3, f4, f5⟩ := hf it (by simp)
    have hl := rv.length
    have T : s.heap.IsTuple a its.toArray := p
    have hn : wpAny (model X.prog X.w) X.A (pyNext (.ref e)) (fun r s1 => r = none ∧ Inv X pins σ H s1) E s := by
      have hT : s.TypeIs (.ref e) "enumerate" := ⟨_, he, rfl⟩
      unfold pyNext
      refine wpAny_bind (wpAny_attempt (wpAny_callSpecial?_slot (name := Str.ofString "__next__") hT F.slot_enumerate_next (wpAny_call_entry F.slot_enumerate_next hT F.entry_enumerate_next ?_ (F.args_enumerate_next_1 _))))
      show wpAny _ _ (field (.ref e) 2 >>= _) _ _ _
      refine wpAny_bind (wpAny_field he rfl (x := .ref it) rfl ?_)
      refine wpAny_bind (wpAny_nextOf_tuple_end (A := X.A.in1) (I.ok.hd hc) hit T (by simp; omega) fun h' x he' hx' => ?_)
      obtain ⟨o, ho, hcl⟩ := hx'
      refine wpAny_bind (wpAny_isInstance (T := "StopIteration") (b := true) ⟨o, ho, hcl⟩ isSubtype_stop ?_)
      exact wpAny_pure ⟨rfl, I.turned (t' := s.toks) (fun b o hb q => he' b o hb q) f0 f1 f3 f4 f5⟩
    exact hn
  self := fun A i s Q E st h => by
    obtain ⟨⟨_, he⟩, _⟩ := st
    exact wpAny_pyIter_enum he h
def iEnumT (K : PySem.W.Frag) (ta : TA) : TI := fun σ H R => ta σ H fun vs H1 => ∃ a xs, vs = [.ref a] ∧ SqT K H1 a xs ∧ R (Itu K a) H1
theorem pi_enumT {X : Cx} {e : Expr} {ta : TA} {p pos tpos : Pos} {elts : List Expr} {kk : Nat} (hg : Gl X "enumerate") (hm : X.mg "enumerate" = none) (ha : PA X [e] ta) (hs : starEach [e] X.env = [(false, eval e X.env)] := by rfl) :
    PI X (.Tuple elts kk tpos) (.Call (.Name "enumerate" p) [e] [] pos) (iEnumT X.K ta) := by
  constructor
  intro pins s σ H R I h
  refine Call_ (ld_blt I hg hm boot_enumerate (PyProof.Rows.callWith_type1 (thn (ha.run pos pins s σ H _ I h) fun us s1 got => ?_) hs rfl))
  obtain ⟨vs, H1, I1, r1, a, xs, rfl, hq, q⟩ := got
  cases r1 with
  | cons r rr =>
    cases rr
    cases r
    obtain ⟨its, rv, p', hz⟩ := I1.tuple hq
    have alt : a < s1.heap.objs.size := by
      obtain ⟨o, g, _⟩ := id p'
      exact Heap.lt_size g
    refine call_enumT (show s1.heap.IsTuple a its.toArray from p') fun h' he hit hk => wpAny_pyIter_enum he ?_
    refine ⟨s1.heap.objs.size + 1, [s1.heap.objs.size + 1, s1.heap.objs.size], _, _, H1, rfl, I1.kept (t' := s1.toks) hk, turn_enumT a (s1.heap.objs.size + 1) s1.heap.objs.size (Nat.ne_of_lt (Nat.lt_succ_of_lt alt)) (Nat.ne_of_lt alt), ⟨⟨.none, he⟩, hit, Nat.succ_ne_self _⟩, fun b hb => ?_, q⟩
    have hle : s1.heap.objs.size ≤ b := by
      rcases List.mem_cons.mp hb with rfl | hb
      · exact Nat.le_add_right _ _
      · obtain rfl := List.mem_singleton.mp hb
        exact Nat.le_refl _
    exact I1.fpOk hle (I1.hok.fresh hle)
theorem walk_enumT {K : PySem.W.Frag} {a : Addr} {xs : List V} : Walk (Itu K a) xs.length (fun H => SqT K H a xs) (YPair (fun i => some (.int (i : Nat))) (fun i => xs[i]?)) := by
  refine ⟨fun i _ hi q => ⟨xs, xs[i], q, by simp [hi]⟩, fun _ q => ⟨xs, q, Nat.le_refl _⟩, fun i H v H' _ q y => ?_⟩
  obtain ⟨T, x, h1, h2, h3, h4⟩ := y
  exact ⟨T, .int (i : Nat), x, h1, h2, h3, rfl, h4 xs q⟩

/-! ### t[::-1], t a tuple -/
section
variable {prog : Program} {w : World} {A : Around} {E : Value → Shared → Prop} {s : Shared}
theorem fm_map {α β : Type} {f : α → Option β} {g : α → β} : ∀ {l : List α}, (∀ m ∈ l, f m = some (g m)) → l.filterMap f = l.map g
  | [], _ => rfl
  | a :: l, h => by
    rw [List.filterMap_cons, h a (List.mem_cons_self ..), List.map_cons, fm_map fun m hm => h m (List.mem_cons_of_mem _ hm)]
theorem back_pick (its : Array Value) : ((List.range its.size).filterMap fun (m : Nat) => its[((((its.size : Nat) : Int) - 1) + (m : Int) * (-1)).toNat]?) = its.toList.reverse := by
  obtain ⟨l⟩ := its
  simp only [List.size_toArray, List.getElem?_toArray]
  apply List.ext_getElem?
  intro i
  have e : (List.range l.length).filterMap (fun (m : Nat) => l[((((l.length : Nat) : Int) - 1) + (m : Int) * (-1)).toNat]?) = (List.range l.length).map fun m => l.getD (l.length - 1 - m) .none := by
    apply fm_map
    intro m hm
    have hm' : m < l.length := List.mem_range.mp hm
    have e1 : ((((l.length : Nat) : Int) - 1) + (m : Int) * (-1)).toNat = l.length - 1 - m := by omega
    rw [e1]
    have hlt : l.length - 1 - m < l.length := by omega
    rw [List.getElem?_eq_getElem hlt]
    simp [List.getD_eq_getElem?_getD, List.getElem?_eq_getElem hlt]
  show ((List.range l.length).filterMap _)[i]? = (l.reverse)[i]?
  rw [e]
  by_cases hi : i < l.length
  · rw [List.getElem?_map, List.getElem?_range hi, List.getElem?_reverse hi]
    have hlt : l.length - 1 - i < l.length := by omega
    simp [List.getD_eq_getElem?_getD, List.getElem?_eq_getElem hlt]
  · rw [List.getElem?_eq_none (by simp; omega), List.getElem?_eq_none (by simp; omega)]
theorem back_places (n : Nat) : Builtin.Slice.slicePlaces ((n : Int) - 1) (-1) (-1) = n := by
  unfold Builtin.Slice.slicePlaces
  rw [if_neg (by decide)]
  by_cases h : (n : Int) - 1 > -1
  · rw [if_pos h]
    simp only [Int.neg_neg, Int.ediv_one]
    omega
  · rw [if_neg h]
    omega
theorem back_adjust (n : Int) : Builtin.Slice.sliceAdjust none none (-1) n = (n - 1, -1) := by
  unfold Builtin.Slice.sliceAdjust
  simp
theorem back_item {tt sl : Addr} {its : Array Value} {vl vu vs : Value} {Q : Value → Shared → Prop} (ht : IsTup s.heap tt its) (hs : s.heap.IsSliceOf sl vl vu vs) (pl : IsPart vl none) (pu : IsPart vu none) (ps : IsPart vs (some (-1)))
    (h : Q (.ref s.heap.objs.size) { s with heap := s.heap.push { cls := .type "tuple", data := .seq its.toList.reverse.toArray } }) (hz : its.size ≤ sizeLine) : wpAny (model prog w) A (getItem (.ref tt) (.ref sl)) Q E s := by
  have room : (its.toList.reverse.toArray).size ≤ sizeLine := by
    rw [List.size_toArray, List.length_reverse, Array.length_toList]
    exact hz
  obtain ⟨os, hos, hcs, hds⟩ := id hs
  have sliceT : s.TypeIs (.ref sl) "slice" := ⟨os, hos, hcs⟩
  unfold getItem
  try with_reducible refine wpAny_holding ?_
  first | refine wpAny_bind (wpAny_pure ?_) | skip
  refine wpAny_bind (wpAny_sequenceKey ht.typeIs (by decide) ?_)
  refine wpAny_bind (wpAny_callSpecial?_slot (name := Str.ofString "__getitem__") ht.typeIs PyProof.Rows.slot_tuple_getitem (wpAny_call_entry PyProof.Rows.slot_tuple_getitem ht.typeIs entry_tuple_getitem ?_ (args_tuple_getitem _ _)))
  show wpAny _ _ (Builtin.Tuple.tupleItemsOf (.ref tt) >>= _) _ _ s
  refine wpAny_bind (tupleItemsOf_ ht ?_)
  refine wpAny_bind (wpAny_typeOf sliceT ?_)
  rw [if_pos (by decide)]
  refine wpAny_bind (m := Builtin.Slice.sliceApplied (.ref sl) (pure (its.size : Int))) ?_
  unfold Builtin.Slice.sliceApplied Builtin.Slice.sliceFields
  refine wpAny_bind (wpAny_bind (wpAny_field hos hds (x := vl) rfl (wpAny_bind (wpAny_field hos hds (x := vu) rfl (wpAny_bind (wpAny_field hos hds (x := vs) rfl (wpAny_pure ?_)))))))
  refine wpAny_bind (HT.slicePart_ ps ?_)
  show wpAny _ _ (if ((-1 : Int) == 0) = true then _ else _) _ _ s
  rw [if_neg (by decide)]
  refine wpAny_bind (HT.slicePart_ pl (wpAny_bind (HT.slicePart_ pu (wpAny_bind (wpAny_pure ?_)))))
  show wpAny _ _ (match Builtin.Slice.sliceAdjust none none (-1) (its.size : Int) with | (lo, hi) => pure (lo, (-1 : Int), Builtin.Slice.slicePlaces lo hi (-1))) _ _ s
  rw [back_adjust]
  show wpAny _ _ (pure ((its.size : Int) - 1, (-1 : Int), Builtin.Slice.slicePlaces ((its.size : Int) - 1) (-1) (-1))) _ _ s
  rw [back_places]
  refine wpAny_pure ?_
  show wpAny _ _ (if (((its.size : Int) - 1 == 0 && (-1 : Int) == 1) && its.size == its.size) = true then _ else _) _ _ s
  rw [if_neg (by simp)]
  rw [back_pick]
  first
    | exact wpAny_bind (m := Builtin.Tuple.tupleExact _) (wpAny_newObj_type (wpAny_pure ⟨_, rfl, wpAny_pure h⟩) room)
    | exact wpAny_bind (m := Builtin.Tuple.tupleExact _) (wpAny_newObj_type (wpAny_bind (wpAny_pure (wpAny_pure ⟨_, rfl, wpAny_pure h⟩))) room)
    | exact wpAny_bind (wpAny_bind (m := Builtin.Tuple.tupleExact _) (wpAny_newObj_type (wpAny_pure (wpAny_pure ⟨_, rfl, wpAny_pure h⟩)) room))
    | exact wpAny_bind (wpAny_bind (m := Builtin.Tuple.tupleExact _) (wpAny_newObj_type (wpAny_pure ⟨_, rfl, wpAny_pure h⟩) room))
end
def tRevT (K : PySem.W.Frag) (te : TE) : TE := fun σ H Q => te σ H fun x H1 => ∃ a xs, x = .ref a ∧ SqT K H1 a xs ∧ ∀ p, H1 p = none → Q (.ref p) (upd H1 p (.tup xs.reverse))
theorem pe_revT {X : Cx} {e : Expr} {te : TE} {k : Nat} {p1 p2 p3 pos : Pos} (he : PE X e te) : PE X (.Subscript e (.Slice none none (some (.UnaryOp .USub (.Constant (.int 1) k p1) p2)) p3) pos) (tRevT X.K te) := by
  constructor
  intro pins s σ H Q I h
  refine Subscript_ (thn (he.run pins s σ H _ I h) fun v s1 got => ?_)
  obtain ⟨x, H1, I1, r1, a, xs, rfl, hx, q⟩ := got
  cases r1
  have part : PO X (some (.UnaryOp .USub (.Constant (.int 1) k p1) p2)) (tPart (tUn (rU fun i => .int (-i)) (tC (.int 1)))) := po_some (pe_un un_neg pe_int)
  refine wpAny_Slice (thn (po_none.run pins s1 σ H1 (fun o H2 => o = none ∧ H2 = H1) I1 ⟨rfl, rfl⟩) fun vl s2 g2 => ?_)
  obtain ⟨l, H2, I2, pl, rfl, rfl⟩ := g2
  refine thn (po_none.run pins s2 σ H2 (fun o H3 => o = none ∧ H3 = H2) I2 ⟨rfl, rfl⟩) fun vu s3 g3 => ?_
  obtain ⟨u, H3, I3, pu, rfl, rfl⟩ := g3
  refine thn (part.run pins s3 σ H3 (fun o H4 => o = some (-1) ∧ H4 = H3) I3 ⟨1, rfl, -1, rfl, rfl, rfl⟩) fun vs s4 g4 => ?_
  obtain ⟨o, H4, I4, ps, rfl, rfl⟩ := g4
  have I5 : Inv X pins σ H4 { s4 with heap := s4.heap.push { cls := .type "slice", data := .fields #[vl, vu, vs] } } := I4.kept (t' := s4.toks) fun b ob q => Heap.get?_push_of_some _ q
  obtain ⟨its, r, ht, hz⟩ := I5.tuple hx
  have hl := r.length
  show wpAny (model X.prog X.w) X.A (subscriptTail e (.Slice none none (some (.UnaryOp .USub (.Constant (.int 1) k p1) p2)) p3) (.ref a) (.ref s4.heap.objs.size)) (EP X pins σ Q) X.xe { s4 with heap := s4.heap.push { cls := .type "slice", data := .fields #[vl, vu, vs] } }
  refine tail_any (ops := [.ref a, .ref s4.heap.objs.size]) ht.typeIs (PyProof.Rows.slot_tuple_getitem.lookup) ?_ (by with_unfolding_all rfl)
  refine back_item ht (Heap.IsSliceOf.new _ vl vu vs) pl pu ps ?_ (by rw [List.size_toArray]; omega)
  refine ⟨.ref _, _, I5.laid (t' := s4.toks) (o := .tup xs.reverse) (fun b ob q => Heap.get?_push_of_some _ q) (Nat.le_refl _) ?_, rfl, q _ (I5.hok.fresh (Nat.le_refl _))⟩
  exact ⟨by rw [List.length_reverse]; exact hz, its.reverse, r.reverse, IsTup.new _ _⟩
/-! ### sorted of a tuple of ints -/
section
variable {prog : Program} {w : World} {A : Around} {E : Value → Shared → Prop} {s : Shared}
theorem collectT {l : Addr} {vs : List Value} {Q : List Value → Shared → Prop} (hl : s.heap.IsTuple l vs.toArray) (h : Q vs { s with heap := (s.heap.push (seqObj "list" #[] 0)).update s.heap.objs.size (Obj.mapSeq (· ++ vs.toArray)) })
    (hsz : vs.length ≤ sizeLine) : wpAny (model prog w) A (collect (.ref l)) Q E s := by
  obtain ⟨o, ho, hc, n, hd⟩ := id hl
  unfold collect
  refine wpAny_bind (wpAny_runValue (codeAny_builtin entry_proto_collect' ?_))
  show wpAny _ _ (do again (.builtin "list.__iadd__" ⟨[← newList [], .ref l], []⟩)) _ _ s
  refine wpAny_bind (wpAny_newList (wpAny_pure ⟨Code.quiet_builtin _ (by decide +kernel), codeAny_builtin entry_list_iadd' ?_⟩))
  show wpAny _ _ (Builtin.List.listExtendWith (.ref s.heap.objs.size) (.ref l) (.ref s.heap.objs.size)) _ _ { s with heap := s.heap.push (seqObj "list" #[] 0) }
  unfold Builtin.List.listExtendWith
  have there : (s.heap.push (seqObj "list" #[] 0)).get? l = some o := Heap.get?_push_of_some _ ho
  refine wpAny_bind (wpAny_typeOf (T := "tuple") ⟨o, there, hc⟩ ?_)
  have same : (Value.type "tuple" == Value.type "tuple") = true := by rfl
  rw [if_pos (by rw [same]; simp)]
  refine wpAny_bind (listItems_at there hd ?_)
  refine wpAny_bind (listItems_at (xs := #[]) (n := 0) (Heap.get?_push_size _ rfl) rfl ?_)
  rw [if_neg (by simp)]
  refine wpAny_bind (listUpdate_at (xs := #[]) (n := 0) (Heap.get?_push_size _ rfl) rfl ?_ (Nat.zero_le _) (by show (#[] ++ vs.toArray).size ≤ sizeLine + 1; simp only [Array.size_append, List.size_toArray, List.length_nil]; omega))
  refine wpAny_pure ?_
  show wpAny (model prog w) A (do
      let o ← load s.heap.objs.size
      match o.data with
      | .seq xs _ => pure xs.toList
      | _ => unsupported "internal:collect") Q E { s with heap := (s.heap.push (seqObj "list" #[] 0)).update s.heap.objs.size (Obj.mapSeq (· ++ vs.toArray)) }
  refine wpAny_bind (wpAny_load (get?_update_seq (Heap.get?_push_size _ rfl) _) ?_)
  show wpAny _ _ (pure ((#[] : Array Value) ++ vs.toArray).toList) Q E _
  rw [show ((#[] : Array Value) ++ vs.toArray).toList = vs by simp]
  exact wpAny_pure h
theorem sortedT {l : Addr} {vs : List Value} {ns : List Int} {Q : Value → Shared → Prop} (hl : s.heap.IsTuple l vs.toArray) (hI : IntsAre vs ns) (few : vs.length < 64)
    (h : ∀ (out : Array Value) (ns' : List Int), IntsAre out.toList ns' → ns'.Perm ns → ns'.Pairwise (· ≤ ·) → Q (.ref (s.heap.objs.size + 1)) { s with heap := sortedAll s.heap vs out }) :
    wpAny (model prog w) A (call (.builtin "sorted") [.ref l]) Q E s := by
  refine Calls.call_function_entry kind_sorted plain_sorted entry_sorted (args_sorted1 _) ?_
  unfold Builtin.«sorted»
  refine wpAny_bind (m := checkCount "sorted" 1 1 _) (wpAny_pure ?_)
  refine wpAny_bind (collectT hl ?_ (by rw [sizeLine_eq]; omega))
  refine wpAny_bind (wpAny_newList ?_)
  have sz : ((s.heap.push (seqObj "list" #[] 0)).update s.heap.objs.size (Obj.mapSeq (· ++ vs.toArray))).objs.size = s.heap.objs.size + 1 := by
    rw [Heap.size_update, size_push']
  have at1 : (((s.heap.push (seqObj "list" #[] 0)).update s.heap.objs.size (Obj.mapSeq (· ++ vs.toArray))).push (seqObj "list" vs.toArray 0)).get? (s.heap.objs.size + 1) = some (seqObj "list" vs.toArray 0) := by
    rw [← sz]
    exact Heap.get?_push_size _ rfl
  show wpAny _ _ _ _ _ { s with heap := ((s.heap.push (seqObj "list" #[] 0)).update s.heap.objs.size (Obj.mapSeq (· ++ vs.toArray))).push (seqObj "list" vs.toArray 0) }
  rw [sz]
  refine wpAny_bind (wpAny_holding (wpAny_call_entry slot_list_sort ⟨_, at1, rfl⟩ entry_list_sort (list_sort_tree at1 hI few fun out ns' a1 a2 a3 => ⟨_, rfl, ?_⟩) (args_list_sort _)))
  exact wpAny_pure ⟨_, rfl, h out ns' a1 a2 a3⟩
end
theorem ints_rel : ∀ {ns : List Int} {us : List Value}, Vals (ns.map V.int) us → IntsAre us ns
  | [], _, r => by cases r; exact .nil
  | n :: ns, _, r => by
    cases r with
    | cons r1 r2 =>
      obtain ⟨t, rfl⟩ := r1
      exact .cons n t (ints_rel r2)
theorem rel_ints : ∀ {us : List Value} {ns : List Int}, IntsAre us ns → Vals (ns.map V.int) us
  | _, _, .nil => .nil
  | _, _, .cons n t r => .cons ⟨t, rfl⟩ (rel_ints r)
/-- sorted(xs), ints of a list or a tuple, fewer than 64 -/
def rSortedQ (K : PySem.W.Frag) : List V → Hp → VK → Prop := fun vs H Q => ∃ (a : Addr) (ns : List Int), vs = [V.ref a] ∧ (SqL K H a (ns.map V.int) ∨ SqT K H a (ns.map V.int)) ∧ ns.length < 64 ∧
  ∀ (ns' : List Int) (p : Addr), ns'.Perm ns → ns'.Pairwise (· ≤ ·) → H p = none → Q (.ref p) (upd H p (.lst (ns'.map V.int)))
theorem cr_sortedQ {X : Cx} : CallR X (.builtin "sorted") (rSortedQ X.K) := by
  intro pins s σ H vs us Q I r h
  obtain ⟨a, ns, rfl, hq, few, q⟩ := h
  rcases hq with hq | hq
  · exact cr_sortedI pins s σ H [.ref a] us Q I r ⟨a, ns, rfl, hq, q⟩
  · rw [Vals.ref1 r]
    obtain ⟨its, rv, p, hz⟩ := I.tuple hq
    have hlen := rv.length
    rw [List.length_map] at hlen
    refine sortedT (show s.heap.IsTuple a its.toArray from p) (ints_rel rv) (by omega) fun out ns' h1 h2 h3 => ?_
    obtain ⟨ep, he⟩ := sortedAll_at s.heap its out
    have hl2 : (ns'.map V.int).length ≤ sizeLine := by
      rw [List.length_map, h2.length_eq, sizeLine_eq]
      omega
    exact ⟨.ref _, upd H (s.heap.objs.size + 1) (.lst (ns'.map V.int)), I.laid (t' := s.toks) (fun _ _ => sortedAll_old) (Nat.le_succ _) ⟨hl2, out.toList, ep, rel_ints h1, by simpa using he⟩, rfl, q ns' _ h2 h3 (I.hok.fresh (Nat.le_succ _))⟩
/-! ### a, b = a list or a tuple -/
def gSeq (K : PySem.W.Frag) (n : Nat) (t : TGs) : TG := fun v σ H Q => ∃ a xs, v = .ref a ∧ (SqL K H a xs ∨ SqT K H a xs) ∧ xs.length = n ∧ t xs σ H Q
theorem pg_seq {X : Cx} {es : List Expr} {k n : Nat} {t : TGs} {pos : Pos} (hc : X.calm = true) (h : PGs X es t) (hn : (assignEach es X.env).length = n := by rfl) (hst : (assignEach es X.env).findIdx? (·.1) = none := by rfl) : PG X (.Tuple es k pos) (gSeq X.K n t) := by
  constructor
  intro pins s σ H v u Q I r hw
  obtain ⟨a, xs, rfl, hq, hl, hw⟩ := hw
  rcases hq with hq | hq
  · exact (pg_lst (k := k) (pos := pos) hc h hn hst).run pins s σ H _ u Q I r ⟨a, xs, rfl, hq, hl, hw⟩
  · exact (pg_tup (k := k) (pos := pos) hc h hn hst).run pins s σ H _ u Q I r ⟨a, xs, rfl, hq, hl, hw⟩

/-! ### set(xs) of a list of ints -/
/-- a new set's object -/
abbrev blank (w : World) : Obj := { cls := .type "set", dict := none, data := .set #[] 0 (.fresh 0 0 (!w.params.followText "set-order")) }
section
variable {P : Program} {w : World} {A : Around} {E : Value → Shared → Prop} {s : Shared}
theorem set_lst {l : Addr} {its : Array Value} (ns : List Int) {Q : Value → Shared → Prop} (calm : A.handled = none) (isL : s.heap.IsList l its) (are : IntsAre its.toList ns) (few : ns.length + 1 < scanBound)
    (go : ∀ (g : Heap) (tk c : Nat), SetR w g s.heap.objs.size (fun j => decide (j ∈ ns)) c → c ≤ ns.length → (∀ b o, s.heap.get? b = some o → g.get? b = some o) → Q (.ref s.heap.objs.size) { s with heap := g, toks := tk }) :
    wpAny (model P w) A (call (.type "set") [.ref l]) Q E s := by
  have size : its.size = ns.length := by
    have z := IntsAre.length are
    rwa [Array.length_toList] at z
  have ⟨c, tl, hmro⟩ := F.called_set.mro
  have hmade := F.called_set.made; have hsub := F.called_set.sub
  refine wpAny_call (codeAny_of_tree (?_ : wpAny _ _ (callAny (.type "set") _) _ _ _))
  refine wpAny_pure ⟨Code.quiet_builtin _ (by decide +kernel), codeAny_builtin F.entry_type_call (?_ : _)⟩
  rw [Around.under_plain (weight_type_call_type "set" [.ref l] []) (by rfl)]
  have h1 := F.called_set.notType; have h2 := F.called_set.canCreate; have hct := F.typeCall_set_1 (.ref l)
  repeat (any_goals (first | assumption | (wp_step)))
  refine codeAny_mono (code_set_led1 (.ref l) (E := E) (Q₁ := fun obj t => obj = .ref s.heap.objs.size ∧ t = { s with heap := s.heap.push (blank w) }) ⟨rfl, rfl⟩) fun r t made => ?_
  cases r with
  | error e => exact made
  | ok fl =>
    cases fl with
    | ret obj =>
      obtain ⟨rfl, rfl⟩ := made
      have atS : (s.heap.push (blank w)).get? s.heap.objs.size = some (blank w) := Heap.get?_push_size _ rfl
      have hT : Shared.TypeIs { s with heap := s.heap.push (blank w) } (.ref s.heap.objs.size) "set" := ⟨_, atS, rfl⟩
      have hli := F.called_set.init.lookup; have hbi := F.called_set.init.bind (.ref s.heap.objs.size)
      repeat (any_goals (first | assumption | (wp_step)))
      refine codeAny_mono (codeAny_call_builtin (R := wants (fun r t2 => r = .none ∧ ∃ g tk c, t2 = { s with heap := g, toks := tk } ∧ SetR w g s.heap.objs.size (fun j => decide (j ∈ ns)) c ∧ c ≤ ns.length ∧ (∀ b o, s.heap.get? b = some o → g.get? b = some o)) E)
        F.called_set.init.plain F.entry_set_init (check_set_init_1 hT ?_)) fun r2 t2 done2 => ?_
      · obtain ⟨⟨ocls, odict, odata, oslots⟩, hol, hcl, nl, hdl⟩ := isL
        simp only at hcl hdl
        subst hcl hdl
        have hol' : (s.heap.push (blank w)).get? l = some { cls := .type "list", dict := odict, data := .seq its nl, slots := oslots } := Heap.get?_push_of_some _ hol
        have hsls := F.sub_list_set; have hslf := F.sub_list_frozenset
        have hne : (Value.type "list" == Value.type "dict") = false := (by decide)
        have isL1 : (s.heap.push (blank w)).IsList l its := ⟨_, hol', rfl, nl, rfl⟩
        unfold Builtin.«set.__init__» noKeywords Builtin.Frozenset.updateFrom
        generalize hPI : pyIter = PI
        wp_walk
        subst hPI
        refine wpAny_pyIter_list isL1 ?_
        refine wpAny_bind (wpAny_runValue (?_ : _))
        have lS : l < s.heap.objs.size := Heap.lt_size hol
        have calm3 : A.in1.in1.in1.handled = none := by simp [calm]
        have z1 : (s.heap.push (blank w)).objs.size = s.heap.objs.size + 1 := Heap.size_push ..
        have apart : l ≠ (s.heap.push (blank w)).objs.size := by
          rw [z1]
          exact Nat.ne_of_lt (Nat.lt_succ_of_lt lS)
        have out : s.heap.objs.size ∉ [(s.heap.push (blank w)).objs.size, l] := by
          rw [z1]
          simp only [List.mem_cons, List.not_mem_nil, or_false, not_or]
          exact ⟨Nat.ne_of_lt (Nat.lt_succ_self _), (Nat.ne_of_gt lS)⟩
        have each : ∀ (i : Nat) (v : Value), its[i]? = some v → ∃ k t, ns[i]? = some k ∧ v = .int k t := by
          intro i v hv
          have hi : i < ns.length := size ▸ (Array.getElem?_eq_some_iff.mp hv).1
          obtain ⟨t, e⟩ := IntsAre.int_at are i v (by rw [Array.getElem?_toList]; exact hv)
          refine ⟨ns[i], t, List.getElem?_eq_getElem hi, e.trans ?_⟩
          rw [List.getD_eq_getElem?_getD, List.getElem?_eq_getElem hi]
          rfl
        refine set_update_ints ((Walks.list calm3 _ l apart its).toS) s.heap.objs.size out ns size few each (its.size - 0) 0 _ (by omega) (Nat.zero_le _) ⟨⟨_, Heap.get?_push_size _ rfl, rfl, rfl⟩, isL1.push _⟩ ?first ?last
        case first =>
          exact ⟨0, Nat.le_refl 0, setR_new_at (Heap.get?_push_of_some _ atS)⟩
        case last =>
          intro t3 c3 moved le3 R3
          obtain ⟨g3, gens3, drawn3, tk3, os3⟩ := t3
          obtain rfl : gens3 = s.gens := moved.gens
          obtain rfl : drawn3 = s.drawn := moved.drawn
          obtain rfl : os3 = s.os := moved.os
          refine wpAny_pure ?_
          show wpAny _ _ (ret Value.none) _ _ _
          rw [size] at le3
          refine wpAny_pure ⟨rfl, g3, tk3, c3, rfl, R3, le3, fun b o e => ?_⟩
          have b0 : b < s.heap.objs.size := Heap.lt_size e
          refine moved.heap b o ?_ (Heap.get?_push_of_some _ (Heap.get?_push_of_some _ e))
          simp only [List.mem_cons, List.not_mem_nil, or_false, not_or]
          refine ⟨Nat.ne_of_lt b0, ?_⟩
          rw [z1]
          exact Nat.ne_of_lt (Nat.lt_succ_of_lt b0)
      · cases r2 with
        | error e => exact done2
        | ok fl2 =>
          cases fl2 with
          | ret r =>
            obtain ⟨rfl, g, tk, c, rfl, R4, le4, kept⟩ := done2
            repeat (any_goals (first | assumption | (wp_step)))
            exact go g _ c R4 le4 kept
          | _ => exact done2.elim
    | _ => exact made.elim
end
/-- set(xs), ints of a list or a tuple -/
def rSetQ (K : PySem.W.Frag) (w : World) : List V → Hp → VK → Prop := fun xs H Q => ∃ (a : Addr) (ns : List Int), xs = [V.ref a] ∧ (SqL K H a (ns.map V.int) ∨ SqT K H a (ns.map V.int)) ∧ ns.length ≤ 1000 ∧
  ∀ (p : Addr) (c : Nat), c ≤ ns.length → H p = none → Q (.ref p) (upd H p (SetO w p (fun j => decide (j ∈ ns)) c))
theorem cr_setQ {X : Cx} (hc : X.calm = true) : CallR X (.type "set") (rSetQ X.K X.w) := by
  intro pins s σ H xs us Q I r h
  obtain ⟨a, ns, rfl, hq, few, q⟩ := h
  have room : ns.length + 1 < scanBound := by
    unfold scanBound
    omega
  rw [Vals.ref1 r]
  rcases hq with hq | hq
  · obtain ⟨its, rv, p, hz⟩ := I.list hq
    refine set_lst ns (I.ok.hd hc) p.isList (by simpa using ints_rel rv) room fun g tk c R le kept => ?_
    exact ⟨.ref _, _, I.laid (t' := tk) kept (Nat.le_refl _) (setO_new R), rfl, q _ c le (I.hok.fresh (Nat.le_refl _))⟩
  · obtain ⟨its, rv, p, hz⟩ := I.tuple hq
    refine call_set_tupI ns (I.ok.hd hc) (show s.heap.IsTuple a its.toArray from p) (by simpa using ints_rel rv) room fun g tk c R le kept => ?_
    exact ⟨.ref _, _, I.laid (t' := tk) kept (Nat.le_refl _) (setO_new R), rfl, q _ c le (I.hok.fresh (Nat.le_refl _))⟩

/-! ### rows of drafts: the mathematics -/
inductive Row where
  | words (n : Nat)
  | label (s : Str)
  | even (n : Int)
  | branch (c n : Str) (m : Int)
/-- how many words a row has that begins at c -/
def rsize (r : Row) (c : Int) (far : Bool) : Int := match r with
  | .words n => (n : Int)
  | .label _ => 0
  | .even n => (-c) % n
  | .branch _ _ _ => if far = true then 2 else 1
def off (f : Int → Bool) (rs : List Row) : Nat → Int
  | 0 => 0
  | i + 1 => off f rs i + (match rs[i]? with
    | some r => rsize r (off f rs i) (f (i : Nat))
    | none => 0)
def isBr (rs : List Row) (i : Nat) : Bool := match rs[i]? with
  | some (.branch _ _ _) => true
  | _ => false
/-- the label that stands at i -/
def labOf (rs : List Row) (i : Nat) : Option Str := match rs[i]? with
  | some (.label s) => some s
  | _ => none
/-- the label to which the branch at i leads -/
def toOf (rs : List Row) (i : Nat) : Option Str := match rs[i]? with
  | some (.branch _ n _) => some n
  | _ => none
/-- the dict from labels to the numbers of their rows, of the first i rows -/
def spD (rs : List Row) : Nat → List (Key × V)
  | 0 => []
  | i + 1 => match labOf rs i with
    | some s => putK (spD rs i) (Sum.inr s) (.int (i : Nat))
    | none => spD rs i
theorem spD_len (rs : List Row) : ∀ i, (spD rs i).length ≤ i
  | 0 => Nat.le_refl _
  | i + 1 => by
    unfold spD
    have h := spD_len rs i
    split
    · have := length_putK (spD rs i) (Sum.inr (by assumption) : Key) (.int (i : Nat))
      omega
    · omega
/-- where a label stands -/
def spV (rs : List Row) (n : Str) : Option V := valV (spD rs rs.length) (Sum.inr n)
theorem spD_val (rs : List Row) (n : Str) (v : V) : ∀ i, valV (spD rs i) (Sum.inr n) = some v → ∃ j, j < i ∧ v = .int (j : Nat) ∧ labOf rs j = some n
  | 0, h => by cases h
  | i + 1, h => by
    unfold spD at h
    cases e : labOf rs i with
    | none =>
      rw [e] at h
      obtain ⟨j, h1, h2⟩ := spD_val rs n v i h
      exact ⟨j, by omega, h2⟩
    | some s =>
      rw [e] at h
      dsimp only at h
      rw [valV_put] at h
      split at h
      · rename_i e2
        cases h
        have : n = s := Sum.inr.inj e2
        exact ⟨i, by omega, rfl, by rw [e, this]⟩
      · obtain ⟨j, h1, h2⟩ := spD_val rs n v i h
        exact ⟨j, by omega, h2⟩
def spot (rs : List Row) (n : Str) : Option Nat := match spV rs n with
  | some (.int k) => some k.toNat
  | _ => none
theorem spV_some {rs : List Row} {n : Str} {v : V} (h : spV rs n = some v) : ∃ j, spot rs n = some j ∧ v = .int (j : Nat) ∧ j < rs.length ∧ labOf rs j = some n := by
  obtain ⟨j, h1, rfl, h3⟩ := spD_val rs n v _ h
  refine ⟨j, ?_, rfl, h1, h3⟩
  unfold spot
  rw [h]
  simp
theorem spV_none {rs : List Row} {n : Str} (h : spV rs n = none) : spot rs n = none := by
  unfold spot
  rw [h]
theorem spot_spV (rs : List Row) (n : Str) : spV rs n = (spot rs n).map fun j => .int (j : Nat) := by
  cases e : spV rs n with
  | none => rw [spV_none e]; rfl
  | some v =>
    obtain ⟨j, h1, h2, _⟩ := spV_some e
    rw [h1, h2]
    rfl
theorem spot_lt {rs : List Row} {n : Str} {j : Nat} (h : spot rs n = some j) : j < rs.length := by
  have e := spot_spV rs n
  rw [h] at e
  obtain ⟨j', h1, h2, h3, _⟩ := spV_some e
  rw [h] at h1
  cases h1
  exact h3
/-- where the branch at k leads, if in the draft -/
def aim (rs : List Row) (k : Nat) : Option Nat := (toOf rs k).bind (spot rs)
theorem aim_lt {rs : List Row} {k j : Nat} (h : aim rs k = some j) : j < rs.length ∧ k < rs.length := by
  unfold aim at h
  cases e : toOf rs k with
  | none => rw [e] at h; cases h
  | some n =>
    rw [e] at h
    refine ⟨spot_lt h, ?_⟩
    unfold toOf at e
    cases e2 : rs[k]? with
    | none => rw [e2] at e; cases e
    | some r => exact (List.getElem?_eq_some_iff.mp e2).1
def brsTo (rs : List Row) (i : Nat) : List Nat := (List.range i).filter (isBr rs)
def brs (rs : List Row) : List Nat := brsTo rs rs.length
def innTo (rs : List Row) (i : Nat) : List Nat := (List.range i).filter fun k => (aim rs k).isSome
def inn (rs : List Row) : List Nat := innTo rs rs.length
def outs (rs : List Row) : List Nat := (brs rs).filter fun k => (aim rs k).isNone
def way (f : Int → Bool) (rs : List Row) (k : Nat) : Int := off f rs ((aim rs k).getD 0) - off f rs k
def tooL (w : Int) : Bool := decide (w < -256) || decide (w > 255)
def isLong (f : Int → Bool) (rs : List Row) (k : Nat) : Bool := !f (k : Nat) && tooL (way f rs k)
/-- the near branches that are too long if f are far -/
def long (f : Int → Bool) (rs : List Row) : List Nat := (inn rs).filter (isLong f rs)
def nats (ks : List Nat) : List V := ks.map fun (k : Nat) => V.int (k : Int)
theorem nats_int (ks : List Nat) : nats ks = (ks.map fun (k : Nat) => (k : Int)).map V.int := by
  unfold nats
  rw [List.map_map]
  rfl
theorem nats_len (ks : List Nat) : (nats ks).length = ks.length := List.length_map ..
theorem nats_app (ks js : List Nat) : nats (ks ++ js) = nats ks ++ nats js := List.map_append ..
/-- membership of a list of nats -/
def mem (ns : List Int) : Int → Bool := fun k => decide (k ∈ ns)
theorem isBr_to {rs : List Row} {k : Nat} : isBr rs k = (toOf rs k).isSome := by
  unfold isBr toOf
  cases rs[k]? with
  | none => rfl
  | some r => cases r <;> rfl
theorem brs_inn (rs : List Row) : (brs rs).filter (fun k => (aim rs k).isSome) = inn rs := by
  unfold brs brsTo inn innTo
  rw [List.filter_filter]
  congr 1
  funext k
  rw [isBr_to]
  unfold aim
  cases toOf rs k with
  | none => rfl
  | some n => simp
theorem long_cong {f g : Int → Bool} {rs : List Row} (h : ∀ k, f k = g k) : long f rs = long g rs := by
  have : f = g := funext h
  rw [this]
/-! ### inV over nats -/
theorem inV_ints (k : Int) (ns : List Int) : inV (.int k) (ns.map V.int) = decide (k ∈ ns) := by
  unfold inV
  induction ns with
  | nil => simp
  | cons n ns ih =>
    rw [List.map_cons, List.any_cons, ih]
    have e : eqV (.int n) (.int k) = decide (n = k) := by
      by_cases h : n = k
      · subst h; simp [eqV]
      · simp [eqV, h]
    rw [e]
    by_cases h1 : n = k
    · subst h1; simp
    · have h2 : ¬ k = n := fun z => h1 z.symm
      simp [h1, h2, List.mem_cons]
theorem flat_ints (ns : List Int) : (ns.map V.int).all flatV = true := by
  rw [List.all_eq_true]
  intro x hx
  obtain ⟨n, _, rfl⟩ := List.mem_map.mp hx
  rfl
/-! ### rows in the heap -/
def RowV (K : PySem.W.Frag) (H : Hp) (v : V) : Row → Prop
  | .words n => ∃ a b, v = .ref a ∧ SqT K H a [.str "words", .ref b] ∧ ∃ xs, (SqL K H b xs ∨ SqT K H b xs) ∧ xs.length = n
  | .label s => ∃ a, v = .ref a ∧ SqT K H a [.str "label", .str s]
  | .even n => ∃ a, v = .ref a ∧ SqT K H a [.str "even", .int n]
  | .branch c n m => ∃ a, v = .ref a ∧ SqT K H a [.str "branch", .str c, .str n, .int m]
theorem rowV_same {K : PySem.W.Frag} {H H' : Hp} {v : V} {r : Row} (e : Same H H') (h : RowV K H v r) : RowV K H' v r := by
  cases r with
  | words n =>
    obtain ⟨a, b, h1, h2, xs, h3, h4⟩ := h
    exact ⟨a, b, h1, sqT_same e h2, xs, h3.imp (sqL_same e) (sqT_same e), h4⟩
  | label s =>
    obtain ⟨a, h1, h2⟩ := h
    exact ⟨a, h1, sqT_same e h2⟩
  | even n =>
    obtain ⟨a, h1, h2⟩ := h
    exact ⟨a, h1, sqT_same e h2⟩
  | branch c n m =>
    obtain ⟨a, h1, h2⟩ := h
    exact ⟨a, h1, sqT_same e h2⟩
inductive RowsV (K : PySem.W.Frag) (H : Hp) : List V → List Row → Prop
  | nil : RowsV K H [] []
  | cons {v : V} {vs : List V} {r : Row} {rs : List Row} : RowV K H v r → RowsV K H vs rs → RowsV K H (v :: vs) (r :: rs)
theorem rowsV_same {K : PySem.W.Frag} {H H' : Hp} (e : Same H H') : ∀ {xs : List V} {rs : List Row}, RowsV K H xs rs → RowsV K H' xs rs
  | _, _, .nil => .nil
  | _, _, .cons h t => .cons (rowV_same e h) (rowsV_same e t)
theorem rowsV_get {K : PySem.W.Frag} {H : Hp} : ∀ {xs : List V} {rs : List Row}, RowsV K H xs rs → ∀ {i : Nat} {v : V}, xs[i]? = some v → ∃ r, rs[i]? = some r ∧ RowV K H v r
  | _, _, .nil, i, v, h => by simp at h
  | _, _, .cons g t, 0, v, e => by
    obtain rfl : _ = v := Option.some.inj e
    exact ⟨_, rfl, g⟩
  | _, _, .cons g t, i + 1, v, e => rowsV_get t (i := i) e
theorem rowsV_len {K : PySem.W.Frag} {H : Hp} : ∀ {xs : List V} {rs : List Row}, RowsV K H xs rs → xs.length = rs.length
  | _, _, .nil => rfl
  | _, _, .cons _ t => congrArg (· + 1) (rowsV_len t)
/-- the kind of a row -/
def kindOf : Row → Str
  | .words _ => "words"
  | .label _ => "label"
  | .even _ => "even"
  | .branch _ _ _ => "branch"
/-- what a row's tuple holds -/
theorem rowV_tup {K : PySem.W.Frag} {H : Hp} {v : V} {r : Row} (h : RowV K H v r) : ∃ a xs, v = .ref a ∧ SqT K H a xs ∧ xs[0]? = some (.str (kindOf r)) := by
  cases r with
  | words n =>
    obtain ⟨a, b, h1, h2, _⟩ := h
    exact ⟨a, _, h1, h2, rfl⟩
  | label s =>
    obtain ⟨a, h1, h2⟩ := h
    exact ⟨a, _, h1, h2, rfl⟩
  | even n =>
    obtain ⟨a, h1, h2⟩ := h
    exact ⟨a, _, h1, h2, rfl⟩
  | branch c n m =>
    obtain ⟨a, h1, h2⟩ := h
    exact ⟨a, _, h1, h2, rfl⟩
theorem at_of {xs : List V} {i : Nat} {v : V} (h : xs[i]? = some v) : atI xs (i : Int) = some v := by
  have hi : i < xs.length := (List.getElem?_eq_some_iff.mp h).1
  unfold atI ixN
  rw [if_pos (by omega), if_pos (by omega)]
  show xs[((i : Int)).toNat]? = _
  rw [Int.toNat_natCast]
  exact h
theorem at_last {xs : List V} {v : V} : atI (xs ++ [v]) (-1) = some v := by
  unfold atI ixN
  rw [if_neg (by omega), if_pos (by simp; omega)]
  show (xs ++ [v])[_]? = _
  have e : (-1 + ((xs ++ [v]).length : Int)).toNat = xs.length := by
    rw [List.length_append, List.length_singleton]
    omega
  rw [e]
  simp

theorem strEq (a b : Str) : decide (V.str a = V.str b) = decide (a = b) := by
  by_cases c : a = b
  · rw [c]; simp
  · rw [decide_eq_false c]
    exact decide_eq_false fun z => c (V.str.inj z)
theorem intEq (a b : Int) : decide (V.int a = V.int b) = decide (a = b) := by
  by_cases c : a = b
  · rw [c]; simp
  · rw [decide_eq_false c]
    exact decide_eq_false fun z => c (V.int.inj z)
/-- a text compared with one that it is, that it is not -/
theorem kEq {k s : Str} {A B : Prop} (c : decide (k = s) = true) (h : A) : if decide (V.str k = V.str s) = true then A else B := by
  rw [strEq, c]
  exact iteT h
theorem kNe {k s : Str} {A B : Prop} (c : decide (k = s) = false) (h : B) : if decide (V.str k = V.str s) = true then A else B := by
  rw [strEq, c]
  exact iteF h
theorem kEqb {k s : Str} {Q : Bool → Prop} (c : decide (k = s) = true) (h : Q true) : Q (decide (V.str k = V.str s)) := by
  rw [strEq, c]
  exact h
theorem kNeb {k s : Str} {Q : Bool → Prop} (c : decide (k = s) = false) (h : Q false) : Q (decide (V.str k = V.str s)) := by
  rw [strEq, c]
  exact h
def RowOk : Row → Prop
  | .even n => 0 < n
  | _ => True
def spLengthOf (K : PySem.W.Frag) : Sp := fun vs H Q _ => ∃ v r c b, vs = [v, .int c, .bl b] ∧ RowV K H v r ∧ RowOk r ∧ Q (.int (rsize r c b)) H
abbrev sLengthOf : Stmt := topS 28
theorem scLengthOf : FnScope ["row", "begin", "is_far"] ["row", "begin", "is_far"] (defScope sLengthOf) := ⟨rfl, rfl, rfl, by decide +kernel, rfl, by decide +kernel, by decide +kernel⟩
section
variable {P : Program} {w : World} {K : PySem.W.Frag} {mg : Str → Option Value} {base : Heap}
theorem ok_lengthOf {f : Addr} {fd : FuncData} (F : Fun K "length_of" "length_of" sLengthOf f fd) (T : Bi mg) : FnOk P w K mg base CX0 1 f fd ["row", "begin", "is_far"] (spLengthOf K) := by
  refine F.ok scLengthOf (fun vs H Q E h => ?_) (fun cdv A outer s H vs Q E hr h => ?_)
  · obtain ⟨v, r, c, b, rfl, _⟩ := h
    rfl
  · obtain ⟨v, r, c, b, rfl, hv, hk, q⟩ := h
    refine ⟨_, (pss_cons (ps_if (pt_cmpR op_eq (pe_ix ix_tup (pv 0) pe_int (fun _ _ => rfl)) pe_str (nomark _)) (pss_one (ps_ret (pe_callB call_len_seq (by rfl) T.len (by decide +kernel) (pa_cons (pe_ix ix_tup (pv 0) pe_int (fun _ _ => rfl)) pa_nil)))) pss_nil)
      (pss_cons (ps_if (pt_cmpR op_eq (pe_ix ix_tup (pv 0) pe_int (fun _ _ => rfl)) pe_str (nomark _)) (pss_one (ps_ret (pe_op op_mod (pe_un un_neg (pv 1)) (pe_ix ix_tup (pv 0) pe_int (fun _ _ => rfl))))) pss_nil)
      (pss_cons (ps_if (pt_cmpR op_eq (pe_ix ix_tup (pv 0) pe_int (fun _ _ => rfl)) pe_str (nomark _)) (pss_one (ps_ret (pe_ifExp (pt_val (pv 2)) pe_int pe_int))) pss_nil)
      (pss_one (ps_ret pe_int))))), ?_⟩
    cases r with
    | words n =>
      obtain ⟨a, d, rfl, h2, xs, h3, h4⟩ := hv
      refine ⟨_, rfl, a, _, _, _, rfl, rfl, h2, at_of (i := 0) rfl, rfl, _, rfl, kEq (by decide +kernel) ?_⟩
      refine ⟨_, rfl, a, _, _, _, rfl, rfl, h2, at_of (i := 1) rfl, d, xs, rfl, h3, ?_⟩
      rw [h4]
      exact q
    | label z =>
      obtain ⟨a, rfl, h2⟩ := hv
      refine ⟨_, rfl, a, _, _, _, rfl, rfl, h2, at_of (i := 0) rfl, rfl, _, rfl, kNe (by decide +kernel) ?_⟩
      refine ⟨_, rfl, a, _, _, _, rfl, rfl, h2, at_of (i := 0) rfl, rfl, _, rfl, kNe (by decide +kernel) ?_⟩
      refine ⟨_, rfl, a, _, _, _, rfl, rfl, h2, at_of (i := 0) rfl, rfl, _, rfl, kNe (by decide +kernel) ?_⟩
      exact q
    | even n =>
      obtain ⟨a, rfl, h2⟩ := hv
      refine ⟨_, rfl, a, _, _, _, rfl, rfl, h2, at_of (i := 0) rfl, rfl, _, rfl, kNe (by decide +kernel) ?_⟩
      refine ⟨_, rfl, a, _, _, _, rfl, rfl, h2, at_of (i := 0) rfl, rfl, _, rfl, kEq (by decide +kernel) ?_⟩
      exact ⟨_, rfl, _, rfl, _, rfl, a, _, _, _, rfl, rfl, h2, at_of (i := 1) rfl, _, _, rfl, rfl, hk, q⟩
    | branch z n m =>
      obtain ⟨a, rfl, h2⟩ := hv
      refine ⟨_, rfl, a, _, _, _, rfl, rfl, h2, at_of (i := 0) rfl, rfl, _, rfl, kNe (by decide +kernel) ?_⟩
      refine ⟨_, rfl, a, _, _, _, rfl, rfl, h2, at_of (i := 0) rfl, rfl, _, rfl, kNe (by decide +kernel) ?_⟩
      refine ⟨_, rfl, a, _, _, _, rfl, rfl, h2, at_of (i := 0) rfl, rfl, _, rfl, kEq (by decide +kernel) ?_⟩
      refine ⟨_, rfl, _, rfl, ?_⟩
      cases b with
      | true => exact iteT q
      | false => exact iteF q
end

theorem small1000 {n : Nat} (h : n ≤ 1000) : n < sizeLine := Nat.lt_of_le_of_lt h (by decide)
theorem same_upd {H H' : Hp} {p : Addr} {o : HO} (e : Same H H') (hp : H p = none) : Same H (upd H' p o) := fun b u hb => by
  rw [upd_ne (ne_of_none hb hp)]
  exact e _ _ hb
/-- the offsets of the first rows -/
def offTo (f : Int → Bool) (rs : List Row) (i : Nat) : List V := (List.range (i + 1)).map fun j => V.int (off f rs j)
theorem offTo_succ (f : Int → Bool) (rs : List Row) (i : Nat) : offTo f rs (i + 1) = offTo f rs i ++ [V.int (off f rs (i + 1))] := by
  unfold offTo
  rw [List.range_succ, List.map_append]
  rfl
theorem offTo_len (f : Int → Bool) (rs : List Row) (i : Nat) : (offTo f rs i).length = i + 1 := by
  unfold offTo
  rw [List.length_map, List.length_range]
theorem offTo_last (f : Int → Bool) (rs : List Row) (i : Nat) : atI (offTo f rs i) (-1) = some (.int (off f rs i)) := by
  unfold offTo
  rw [List.range_succ, List.map_append]
  exact at_last
theorem offTo_at {f : Int → Bool} {rs : List Row} {i j : Nat} (h : j ≤ i) : atI (offTo f rs i) (j : Nat) = some (.int (off f rs j)) := by
  refine at_of ?_
  unfold offTo
  rw [List.getElem?_map, List.getElem?_range (by omega)]
  rfl
theorem off_succ {f : Int → Bool} {rs : List Row} {i : Nat} {r : Row} (h : rs[i]? = some r) : off f rs (i + 1) = off f rs i + rsize r (off f rs i) (f (i : Nat)) := by
  show off f rs i + _ = _
  rw [h]
def spMeasured (K : PySem.W.Frag) : Sp := fun vs H Q _ => ∃ (t l : Addr) (xs : List V) (rs : List Row) (ns : List Int), vs = [.ref t, .ref l] ∧ SqT K H t xs ∧ RowsV K H xs rs ∧ (∀ r ∈ rs, RowOk r) ∧ rs.length ≤ 900 ∧ SqL K H l (ns.map V.int) ∧
  ∀ H' p, Same H H' → H p = none → H' p = some (.lst (offTo (mem ns) rs rs.length)) → Q (.ref p) H'
abbrev sMeasured : Stmt := topS 29
theorem scMeasured : FnScope ["rows", "far", "found", "index", "row"] ["rows", "far"] (defScope sMeasured) := ⟨rfl, rfl, rfl, by decide +kernel, rfl, by decide +kernel, by decide +kernel⟩
section
variable {P : Program} {w : World} {K : PySem.W.Frag} {mg : Str → Option Value} {base : Heap}
theorem ok_measured {f : Addr} {fd : FuncData} (F : Fun K "measured" "measured" sMeasured f fd) (T : Bi mg) (G : Has P w K mg base CX0 1 "length_of" ["row", "begin", "is_far"] (spLengthOf K)) : FnOk P w K mg base CX0 2 f fd ["rows", "far"] (spMeasured K) := by
  refine F.ok scMeasured (fun vs H Q E h => ?_) (fun cdv A outer s H vs Q E hr h => ?_)
  · obtain ⟨t, l, xs, rs, ns, rfl, _⟩ := h
    rfl
  · obtain ⟨t, l, xs, rs, ns, rfl, ht, hrs, hok, hlen, hl, q⟩ := h
    refine ⟨_, (pss_cons (ps_set (i := 2) scMeasured.nd rfl (.inl rfl) (pe_lst (pa_cons pe_int pa_nil)))
      (pss_cons (ps_for PassesOwn.never rfl (pi_enumT (by rfl) T.enumerate (pa_cons (pv 0) pa_nil)) (pg_tup rfl (pgs_cons (pg_name (i := 3) scMeasured.nd rfl (.inl rfl)) (pgs_cons (pg_name (i := 4) scMeasured.nd rfl (.inl rfl)) pgs_nil))) (pss_one (ps_expr (pe_bm PySem.F.plainAttrs_list PySem.F.slot_list_append PySem.F.type_list_append mt_append (pv 2) (pa_cons (pe_op op_add (pe_ix ix_list (pv 2) (pe_un un_neg pe_int) (fun _ _ => rfl)) (pe_callH G hr (by rfl) pass0 (pa_cons (pv 4) (pa_cons (pe_ix ix_list (pv 2) (pe_un un_neg pe_int) (fun _ _ => rfl)) (pa_cons (pe_cmpR op_in_seq (pv 3) (pv 1) (by rfl)) pa_nil))))) pa_nil)))))
      (pss_one (ps_ret (pv 2))))), ?_⟩
    refine ⟨(by show 1 ≤ sizeLine; decide), fun L hL => ?_⟩
    refine ⟨_, rfl, t, xs, rfl, sqT_same (same_new hL) ht, ?_⟩
    have lx := rowsV_len hrs
    refine for_it walk_enumT (fun i σ H4 => ∃ (p u : Option V), σ = [some (.ref t), some (.ref l), some (.ref L), p, u] ∧ Same H H4 ∧ H4 L = some (.lst (offTo (mem ns) rs i))) ⟨none, none, rfl, same_new hL, upd_same⟩ (fun i σ H4 _ ⟨_, _, _, sm, _⟩ => sqT_same sm ht) ?_ ?_
    · rintro i x σ H4 H4' hi ⟨p, u, rfl, sm, hL4⟩ ⟨TT, x', y, rfl, hT, rfl, hx', hy⟩
      cases hx'
      have sm5 : Same H4 (upd H4 TT (.tup [.int (i : Nat), y])) := same_new hT
      obtain ⟨r, hri, hrv⟩ := rowsV_get hrs hy
      have hrv5 := rowV_same (sm.trans sm5) hrv
      have hL5 := sm5 _ _ hL4
      have hm : r ∈ rs := List.mem_of_getElem? hri
      have hi' : i < rs.length := by omega
      refine ⟨TT, _, rfl, SqT.of upd_same, rfl, _, _, rfl, _, _, rfl, rfl, ?_⟩
      refine ⟨_, rfl, .inl ⟨rfl, _, SqL.of hL5⟩, ?_⟩
      refine ⟨_, rfl, _, rfl, L, _, _, _, rfl, rfl, SqL.of hL5, offTo_last _ _ _, ?_⟩
      refine ⟨_, rfl, _, rfl, _, rfl, L, _, _, _, rfl, rfl, SqL.of hL5, offTo_last _ _ _, _, rfl, _, rfl, l, _, rfl, .inl (sqL_same (sm.trans sm5) hl), rfl, flat_ints ns, ?_⟩
      rw [inV_ints]
      refine ⟨y, r, _, _, rfl, hrv5, hok r hm, _, _, rfl, rfl, ?_⟩
      refine ⟨L, _, _, rfl, rfl, hL5, ?_, _, _, rfl, ?_, ?_⟩
      · rw [offTo_len]
        exact small1000 (by omega)
      · exact same_upd (sm.trans sm5) hL
      · rw [upd_same, offTo_succ, off_succ hri]
        rfl
    · rintro σ H4 ⟨p, u, rfl, sm, hL4⟩
      rw [lx] at hL4
      exact ⟨_, rfl, q H4 L sm hL hL4⟩
end

/-- a dict comprehension over any walk -/
theorem dc_it {J : It} {n : Nat} {G : Hp → Prop} {Y : Nat → Hp → V → Hp → Prop} (w : Walk J n G Y) {g : TG} {tt : TT} {tk tv : TE} {vs : List Nat} {σ : L2.St} {H1 : Hp} {D : Addr} {Qd : Hp → Prop} (Pv : Nat → Hp → Prop) (h0 : Pv 0 (upd H1 D (.dK []))) (hG : ∀ i H, i ≤ n → Pv i H → G H)
    (hs : ∀ i x H H', i < n → Pv i H → Y i H x H' → g x (wipe σ vs) H' fun σ2 H2 => wipe σ2 vs = wipe σ vs ∧ tt σ2 H2 fun b H3 =>
      if b = true then tk σ2 H3 fun y H4 => tv σ2 H4 fun z H5 => ∃ kvs k, y = kV k ∧ H5 D = some (.dK kvs) ∧ kvs.length < sizeLine ∧ Pv (i + 1) (upd H5 D (.dK (putK kvs k z))) else Pv (i + 1) H3) (hd : ∀ H, Pv n H → Qd H) :
    ∃ W : Nat → Nat → Hp → Prop, (∃ m, W 0 m (upd H1 D (.dK []))) ∧ ∀ i m H, W i m H →
      (J.stop i H ∧ Qd H) ∨ (J.go i H ∧ ∃ Nx : Hp → Prop, (∀ H', Nx H' → ∃ m', m' < m ∧ W (i + 1) m' H') ∧ ∀ x H', J.yld i H x H' → g x (wipe σ vs) H' fun σ2 H2 => wipe σ2 vs = wipe σ vs ∧ tt σ2 H2 fun b H3 =>
        if b = true then tk σ2 H3 fun y H4 => tv σ2 H4 fun z H5 => ∃ kvs k, y = kV k ∧ H5 D = some (.dK kvs) ∧ kvs.length < sizeLine ∧ Nx (upd H5 D (.dK (putK kvs k z))) else Nx H3) := by
  refine ⟨fun i m H => m = n - i ∧ i ≤ n ∧ Pv i H, ⟨n, rfl, Nat.zero_le _, h0⟩, fun i m H hW => ?_⟩
  obtain ⟨rfl, hi, p⟩ := hW
  have q := hG i H hi p
  rcases Nat.lt_or_eq_of_le hi with lt | rfl
  · exact .inr ⟨w.goes i H lt q, Pv (i + 1), fun H' p' => ⟨n - (i + 1), by omega, rfl, lt, p'⟩, fun x H' y => hs i x H H' lt p (w.yields i H x H' lt q y)⟩
  · exact .inl ⟨w.stops H q, hd H p⟩
def labR : Row → Option Str
  | .label s => some s
  | _ => none
theorem labOf_at {rs : List Row} {i : Nat} {r : Row} (h : rs[i]? = some r) : labOf rs i = labR r := by
  unfold labOf labR
  rw [h]
  cases r <;> rfl
/-- terms that are given by hand within comprehensions -/
abbrev ixT (K : PySem.W.Frag) (i : Nat) (n : Int) : TE := tOp (rIxT K) (tVar i) (tC (.int n))
abbrev row0Is (K : PySem.W.Frag) (i : Nat) (s : Str) : TT := tTest (tOp rEq (ixT K i 0) (tC (.str s)))
def spLabelsIn (K : PySem.W.Frag) : Sp := fun vs H Q _ => ∃ (t : Addr) (xs : List V) (rs : List Row), vs = [.ref t] ∧ SqT K H t xs ∧ RowsV K H xs rs ∧ rs.length ≤ 900 ∧ ∀ H' p, Same H H' → H p = none → H' p = some (.dK (spD rs rs.length)) → Q (.ref p) H'
abbrev sLabelsIn : Stmt := topS 30
theorem scLabelsIn : FnScope ["rows", "index", "row"] ["rows"] (defScope sLabelsIn) := ⟨rfl, rfl, rfl, by decide +kernel, rfl, by decide +kernel, by decide +kernel⟩
section
variable {P : Program} {w : World} {K : PySem.W.Frag} {mg : Str → Option Value} {base : Heap}
theorem ok_labelsIn {f : Addr} {fd : FuncData} (F : Fun K "labels_in" "labels_in" sLabelsIn f fd) (T : Bi mg) : FnOk P w K mg base CX0 1 f fd ["rows"] (spLabelsIn K) := by
  refine F.ok scLabelsIn (fun vs H Q E h => ?_) (fun cdv A outer s H vs Q E hr h => ?_)
  · obtain ⟨t, xs, rs, rfl, _⟩ := h
    rfl
  · obtain ⟨t, xs, rs, rfl, ht, hrs, hlen, q⟩ := h
    refine ⟨_, pss_one (ps_ret (pe_dc (own := [("index", 1), ("row", 2)]) (g := gTup K 2 (gCons (gName 1) (gCons (gName 2) gNil))) (tt := row0Is K 2 "label") (tk := ixT K 2 1) (tv := tVar 1) rfl scLabelsIn.nd (pi_enumT (by rfl) T.enumerate (pa_cons (pv 0) pa_nil)) (blkOk_by (N := ["rows", "index", "row"]) (sc := defScope sLabelsIn) (by decide +kernel))
      (fun _ _ _ _ _ => (pg_tup rfl (pgs_cons (pg_name (i := 1) scLabelsIn.nd rfl (.inl rfl) (.inr rfl)) (pgs_cons (pg_name (i := 2) scLabelsIn.nd rfl (.inl rfl) (.inr rfl)) pgs_nil)))) (fun _ _ _ _ _ => pts_one (pt_cmpR op_eq (pe_ix ix_tup (pv 2) pe_int (fun _ _ => rfl)) pe_str (nomark _))) (fun _ _ _ _ _ => pe_ix ix_tup (pv 2) pe_int (fun _ _ => rfl)) (fun _ _ _ _ _ => pv 1))), ?_⟩
    refine ⟨_, rfl, t, xs, rfl, ht, fun D hD => ?_⟩
    have lx := rowsV_len hrs
    refine dc_it walk_enumT (fun i H4 => Same H H4 ∧ H4 D = some (.dK (spD rs i))) ⟨same_new hD, upd_same⟩ (fun i H4 _ ⟨sm, _⟩ => sqT_same sm ht) ?_ ?_
    · rintro i x H4 H4' hi ⟨sm, hD4⟩ ⟨TT, x', y, rfl, hT, rfl, hx', hy⟩
      cases hx'
      have sm5 : Same H4 (upd H4 TT (.tup [.int (i : Nat), y])) := same_new hT
      obtain ⟨r, hri, hrv⟩ := rowsV_get hrs hy
      have hrv5 := rowV_same (sm.trans sm5) hrv
      have hD5 := sm5 _ _ hD4
      have hi' : i < rs.length := by omega
      refine ⟨TT, _, rfl, SqT.of upd_same, rfl, _, _, rfl, _, _, rfl, rfl, rfl, ?_⟩
      have el := labOf_at hri
      have key : ∀ {b : Bool} {A : Prop}, b = false → el = el → (labOf rs i = none) → ((if b = true then A else (Same H (upd H4 TT (.tup [.int (i : Nat), y])) ∧ (upd H4 TT (.tup [.int (i : Nat), y])) D = some (.dK (spD rs (i + 1)))))) := by
        intro b A hb _ hn
        rw [hb]
        refine iteF ⟨sm.trans sm5, ?_⟩
        unfold spD
        rw [hn]
        exact hD5
      cases r with
      | words n =>
        obtain ⟨a, d, rfl, h2, _⟩ := hrv5
        exact ⟨_, rfl, a, _, _, _, rfl, rfl, h2, at_of (i := 0) rfl, rfl, _, rfl, key (by rw [strEq]; decide +kernel) rfl el⟩
      | even n =>
        obtain ⟨a, rfl, h2⟩ := hrv5
        exact ⟨_, rfl, a, _, _, _, rfl, rfl, h2, at_of (i := 0) rfl, rfl, _, rfl, key (by rw [strEq]; decide +kernel) rfl el⟩
      | branch c n m =>
        obtain ⟨a, rfl, h2⟩ := hrv5
        exact ⟨_, rfl, a, _, _, _, rfl, rfl, h2, at_of (i := 0) rfl, rfl, _, rfl, key (by rw [strEq]; decide +kernel) rfl el⟩
      | label z =>
        obtain ⟨a, rfl, h2⟩ := hrv5
        refine ⟨_, rfl, a, _, _, _, rfl, rfl, h2, at_of (i := 0) rfl, rfl, _, rfl, kEq (by decide +kernel) ?_⟩
        refine ⟨_, rfl, a, _, _, _, rfl, rfl, h2, at_of (i := 1) rfl, _, rfl, spD rs i, Sum.inr z, rfl, hD5, ?_, ?_, ?_⟩
        · have := spD_len rs i
          exact small1000 (by omega)
        · exact same_upd (sm.trans sm5) hD
        · rw [upd_same]
          have e2 : spD rs (i + 1) = putK (spD rs i) (Sum.inr z) (.int (i : Nat)) := by
            show (match labOf rs i with | some s => putK (spD rs i) (Sum.inr s) (.int (i : Nat)) | none => spD rs i) = _
            rw [show labOf rs i = some z from el]
          rw [e2]
    · rintro H4 ⟨sm, hD4⟩
      rw [lx] at hD4
      exact q H4 D sm hD hD4
end

abbrev E00 : XK := fun _ _ _ => False
def spIsTooLong : Sp := fun vs H Q _ => ∃ wy : Int, vs = [.int wy] ∧ Q (.bl (tooL wy)) H
def spWayIn (K : PySem.W.Frag) : Sp := fun vs H Q _ => ∃ (d l : Addr) (kvs : List (Key × V)) (os : List V) (k j a b : Int), vs = [.ref d, .ref l, .int k] ∧ Rd H d (.dK kvs) ∧ valV kvs (Sum.inl k) = some (.int j) ∧ SqL K H l os ∧ atI os j = some (.int a) ∧ atI os k = some (.int b) ∧ Q (.int (a - b)) H
def mapD (g : Nat → V) (ks : List Nat) : List (Key × V) := ks.map fun (k : Nat) => (Sum.inl ((k : Nat) : Int), g k)
theorem mapD_len (g : Nat → V) (ks : List Nat) : (mapD g ks).length = ks.length := List.length_map ..
theorem mapD_val (g : Nat → V) (k : Nat) : ∀ ks : List Nat, valV (mapD g ks) (Sum.inl (k : Int)) = if k ∈ ks then some (g k) else none
  | [] => rfl
  | j :: ks => by
    show valV ((Sum.inl (j : Int), g j) :: mapD g ks) _ = _
    by_cases h : j = k
    · subst h
      rw [valV_pos rfl]
      simp
    · rw [valV_neg (by intro z; exact h (by have := Sum.inl.inj z; omega)), mapD_val g k ks]
      have h2 : ¬ k = j := fun z => h z.symm
      simp [List.mem_cons, h2]
def aimD (rs : List Row) : List (Key × V) := mapD (fun k => .int (((aim rs k).getD 0 : Nat) : Int)) (inn rs)
def spTooLong (K : PySem.W.Frag) : Sp := fun vs H Q _ => ∃ (t d l : Addr) (xs : List V) (rs : List Row) (ns : List Int), vs = [.ref t, .ref d, .ref l] ∧ SqT K H t xs ∧ RowsV K H xs rs ∧ (∀ r ∈ rs, RowOk r) ∧ rs.length ≤ 900 ∧ H d = some (.dK (aimD rs)) ∧ SqL K H l (ns.map V.int) ∧
  ∀ H' p, Same H H' → H p = none → H' p = some (.lst (nats (long (mem ns) rs))) → Q (.ref p) H'
abbrev sIsTooLong : Stmt := topS 31
abbrev sWayIn : Stmt := topS 34
abbrev sTooLong : Stmt := topS 35
theorem scIsTooLong : FnScope ["way"] ["way"] (defScope sIsTooLong) := ⟨rfl, rfl, rfl, by decide +kernel, rfl, by decide +kernel, by decide +kernel⟩
theorem scWayIn : FnScope ["aims", "offsets", "index"] ["aims", "offsets", "index"] (defScope sWayIn) := ⟨rfl, rfl, rfl, by decide +kernel, rfl, by decide +kernel, by decide +kernel⟩
theorem scTooLong : FnScope ["parts", "aims", "far", "offsets", "index"] ["parts", "aims", "far"] (defScope sTooLong) := ⟨rfl, rfl, rfl, by decide +kernel, rfl, by decide +kernel, by decide +kernel⟩
theorem mem_lt {rs : List Row} {k : Nat} (h : k ∈ inn rs) : k < rs.length ∧ ∃ j, aim rs k = some j ∧ j < rs.length := by
  unfold inn innTo at h
  obtain ⟨h1, h2⟩ := List.mem_filter.mp h
  obtain ⟨j, e⟩ := Option.isSome_iff_exists.mp h2
  exact ⟨List.mem_range.mp h1, j, e, (aim_lt e).1⟩
theorem inn_len (rs : List Row) : (inn rs).length ≤ rs.length := by
  unfold inn innTo
  refine Nat.le_trans (List.length_filter_le _ _) ?_
  rw [List.length_range]
  exact Nat.le_refl _
/-- a dict that a walk has locked, free again -/
theorem same_unlock {H H1 : Hp} {d D : Addr} {od : Obj} {u : HO} (hd : H d = some u) (hD : H D = none) (kp : ∀ b o, b ≠ D → upd H d (.frz od u) b = some o → H1 b = some o) : Same H (upd H1 d u) := fun b o e => by
  by_cases hb : b = d
  · rw [hb] at e ⊢
    rw [upd_same]
    exact hd.symm.trans e
  · rw [upd_ne hb]
    refine kp b o (ne_of_none e hD) ?_
    rw [upd_ne hb]
    exact e
section
variable {P : Program} {w : World} {K : PySem.W.Frag} {mg : Str → Option Value} {base : Heap}
theorem ok_isTooLong {f : Addr} {fd : FuncData} {t1 t2 : Tok} (F : Fun K "is_too_long" "is_too_long" sIsTooLong f fd) (g1 : mg "LOWEST" = some (.int (-256) t1)) (g2 : mg "HIGHEST" = some (.int 255 t2)) : FnOk P w K mg base CX0 1 f fd ["way"] spIsTooLong := by
  refine F.ok scIsTooLong (fun vs H Q E h => ?_) (fun cdv A outer s H vs Q E hr h => ?_)
  · obtain ⟨wy, rfl, _⟩ := h
    rfl
  · obtain ⟨wy, rfl, q⟩ := h
    refine ⟨_, pss_one (ps_ret (pe_not (pe_chain op_le op_le (pe_glob (v := .int (-256)) rfl g1 ⟨_, rfl⟩) (pv 0) (pe_glob (v := .int 255) rfl g2 ⟨_, rfl⟩)))), ?_⟩
    refine ⟨_, rfl, _, _, rfl, rfl, _, rfl, ?_⟩
    have e : tooL wy = !(decide (-256 ≤ wy) && decide (wy ≤ 255)) := by
      unfold tooL
      by_cases c1 : -256 ≤ wy <;> by_cases c2 : wy ≤ 255 <;> simp [c1, c2] <;> omega
    rw [e] at q
    cases c1 : decide (-256 ≤ wy) with
    | true =>
      rw [c1] at q
      exact iteT ⟨_, _, rfl, rfl, _, rfl, q⟩
    | false =>
      rw [c1] at q
      exact iteF ⟨_, rfl, q⟩
theorem ok_wayIn {f : Addr} {fd : FuncData} (F : Fun K "way_in" "way_in" sWayIn f fd) : FnOk P w K mg base CX0 1 f fd ["aims", "offsets", "index"] (spWayIn K) := by
  refine F.ok scWayIn (fun vs H Q E h => ?_) (fun cdv A outer s H vs Q E hr h => ?_)
  · obtain ⟨d, l, kvs, os, k, j, a, b, rfl, _⟩ := h
    rfl
  · obtain ⟨d, l, kvs, os, k, j, a, b, rfl, hd, hk, hl, ha, hb, q⟩ := h
    have hu := hu_of hr
    refine ⟨_, pss_one (ps_ret (pe_op op_sub (pe_ix ix_list (pv 1) (pe_dget hu (pv 0) (pv 2) (fun _ _ => rfl)) (fun _ _ => rfl)) (pe_ix ix_list (pv 1) (pv 2) (fun _ _ => rfl)))), ?_⟩
    refine ⟨_, rfl, _, rfl, _, rfl, d, _, rfl, .inl ⟨kvs, Sum.inl k, hd, rfl, hk.symm⟩, l, os, _, _, rfl, rfl, hl, ha, ?_⟩
    exact ⟨_, rfl, _, rfl, l, os, _, _, rfl, rfl, hl, hb, _, _, rfl, rfl, q⟩
theorem ok_tooLong {f : Addr} {fd : FuncData} (F : Fun K "too_long_ones" "too_long_ones" sTooLong f fd) (G : Has P w K mg base CX0 2 "measured" ["rows", "far"] (spMeasured K)) (G2 : Has P w K mg base CX0 2 "is_too_long" ["way"] spIsTooLong)
    (G3 : Has P w K mg base CX0 2 "way_in" ["aims", "offsets", "index"] (spWayIn K)) : FnOk P w K mg base CX0 3 f fd ["parts", "aims", "far"] (spTooLong K) := by
  refine F.ok scTooLong (fun vs H Q E h => ?_) (fun cdv A outer s H vs Q E hr h => ?_)
  · obtain ⟨t, d, l, xs, rs, ns, rfl, _⟩ := h
    rfl
  · obtain ⟨t, d, l, xs, rs, ns, rfl, ht, hrs, hok, hlen, hd, hl, q⟩ := h
    refine ⟨_, (pss_cons (ps_set (i := 3) scTooLong.nd rfl (.inr rfl) (pe_callH G hr (by rfl) pass0 (pa_cons (pv 0) (pa_cons (pv 2) pa_nil))))
      (pss_one (ps_ret (pe_lock (pe_lc (own := [("index", 4)]) (g := gName 4) (tt := tAnd (tTest (tOp (rIn K true) (tVar 4) (tVar 2))) (tB (tCall spIsTooLong [] E00 (tCons (tCall (spWayIn K) [] E00 (tCons (tVar 1) (tCons (tVar 3) (tCons (tVar 4) tNil)))) tNil)))) rfl scTooLong.nd (pi_keys (pv 1)) (blkOk_by (N := ["parts", "aims", "far", "offsets", "index"]) (sc := defScope sTooLong) (by decide +kernel)) (fun _ _ _ _ _ => pg_name (i := 4) scTooLong.nd rfl (.inl rfl))
        (fun _ _ _ _ _ => pts_one (PW.pt (pw_and (pt_cmpR op_notIn_seq (pv 4) (pv 2) (by rfl)) (pw_and1 (pt_val (pe_callH G2 hr (by rfl) pass0 (pa_cons (pe_callH G3 hr (by rfl) pass0 (pa_cons (pv 1) (pa_cons (pv 3) (pa_cons (pv 4) pa_nil)))) pa_nil))))))) (fun _ _ _ _ _ => (pv 4))))))), ?_⟩
    refine ⟨_, rfl, _, rfl, t, l, xs, rs, ns, rfl, ht, hrs, hok, hlen, hl, fun H0 O s0 hO0 hO => ?_⟩
    have hd0 := s0 _ _ hd
    refine ⟨d, _, hd0, trivial, fun od => ⟨_, rfl, d, od, rfl, .inl ⟨_, upd_same, fun D hD => ?_⟩⟩⟩
    have hDd : D ≠ d := by
      intro z
      rw [z, upd_same] at hD
      cases hD
    have hDn : H0 D = none := by
      rw [upd_ne hDd] at hD
      exact hD
    have hOd : O ≠ d := ne_of hO hd0 (by intro z; cases z)
    have hOD : O ≠ D := ne_of_none hO hDn
    refine lc_it walk_keys (fun i H1 => (∀ b o, b ≠ D → upd H0 d (.frz od (.dK (aimD rs))) b = some o → H1 b = some o) ∧ H1 D = some (.lst (nats (((inn rs).take i).filter (isLong (mem ns) rs)))))
      ⟨fun b o hb e => by rw [upd_ne hb]; exact e, upd_same⟩ (fun i H1 _ ⟨kp, _⟩ => kp _ _ hDd.symm upd_same) ?_ ?_
    · rintro i x H1 H1' hi ⟨kp, hD1⟩ ⟨rfl, k, v, hk, rfl⟩
      obtain ⟨kk, hkk, hk2⟩ : ∃ kk, (inn rs)[i]? = some kk ∧ (k, v) = (Sum.inl (kk : Int), V.int (((aim rs kk).getD 0 : Nat) : Int)) := by
        unfold aimD mapD at hk
        rw [List.getElem?_map] at hk
        cases e : (inn rs)[i]? with
        | none => rw [e] at hk; cases hk
        | some kk =>
          rw [e] at hk
          exact ⟨kk, rfl, (Option.some.inj hk).symm⟩
      cases hk2
      have hmem := List.mem_of_getElem? hkk
      obtain ⟨hlt, j, ej, hj⟩ := mem_lt hmem
      have hd1 : H1' d = some (.frz od (.dK (aimD rs))) := kp _ _ hDd.symm upd_same
      have hO1 : H1' O = some (.lst (offTo (mem ns) rs rs.length)) := kp _ _ hOD (by rw [upd_ne hOd]; exact hO)
      have hl1 : SqL K H1' l (ns.map V.int) := by
        rcases sqL_same s0 hl with hq | hq
        · rcases hq with hq | ⟨o, hq⟩
          · refine .inl (.inl (kp _ _ (ne_of_none hq hDn) ?_))
            rw [upd_ne (ne_of hq hd0 (by intro z; cases z))]
            exact hq
          · refine .inl (.inr ⟨o, kp _ _ (ne_of_none hq hDn) ?_⟩)
            rw [upd_ne (ne_of hq hd0 (by intro z; cases z))]
            exact hq
        · exact .inr hq
      have tk : (inn rs).take (i + 1) = (inn rs).take i ++ [kk] := by
        rw [List.take_add_one, hkk]
        rfl
      have end1 : isLong (mem ns) rs kk = true → ∃ acc, H1' D = some (.lst acc) ∧ acc.length < sizeLine ∧ ((∀ b o, b ≠ D → upd H0 d (.frz od (.dK (aimD rs))) b = some o → upd H1' D (.lst (acc ++ [V.int (kk : Int)])) b = some o) ∧ upd H1' D (.lst (acc ++ [V.int (kk : Int)])) D = some (.lst (nats (((inn rs).take (i + 1)).filter (isLong (mem ns) rs))))) := by
        intro hlg
        refine ⟨_, hD1, ?_, fun b o hb e => ?_, ?_⟩
        · rw [nats_len]
          have h1 : (((inn rs).take i).filter (isLong (mem ns) rs)).length ≤ ((inn rs).take i).length := List.length_filter_le _ _
          have h2 : ((inn rs).take i).length ≤ (inn rs).length := by rw [List.length_take]; omega
          have h3 := inn_len rs
          exact small1000 (by omega)
        · rw [upd_ne hb]
          exact kp b o hb e
        · rw [upd_same, tk, List.filter_append, nats_app]
          have z : [kk].filter (isLong (mem ns) rs) = [kk] := by simp [List.filter, hlg]
          rw [z]
          rfl
      have end0 : isLong (mem ns) rs kk = false → (∀ b o, b ≠ D → upd H0 d (.frz od (.dK (aimD rs))) b = some o → H1' b = some o) ∧ H1' D = some (.lst (nats (((inn rs).take (i + 1)).filter (isLong (mem ns) rs)))) := by
        intro hlg
        refine ⟨kp, ?_⟩
        rw [tk, List.filter_append]
        have z : [kk].filter (isLong (mem ns) rs) = [] := by simp [List.filter, hlg]
        rw [z, List.append_nil]
        exact hD1
      refine ⟨rfl, _, rfl, _, rfl, l, _, rfl, .inl hl1, rfl, flat_ints ns, _, rfl, ?_⟩
      show if (!inV (.int (kk : Int)) (ns.map V.int)) = true then _ else _
      rw [inV_ints]
      have em : decide ((kk : Int) ∈ ns) = mem ns (kk : Int) := rfl
      rw [em]
      unfold isLong at end1 end0
      cases c : mem ns (kk : Int) with
      | true =>
        rw [c] at end0
        exact iteF (iteF (end0 rfl))
      | false =>
        rw [c] at end0 end1
        refine iteT ⟨_, rfl, _, rfl, _, rfl, d, O, aimD rs, offTo (mem ns) rs rs.length, (kk : Int), (j : Int), off (mem ns) rs j, off (mem ns) rs kk, rfl, .inr ⟨od, hd1⟩, ?_, SqL.of hO1, offTo_at (by omega), offTo_at (by omega), ?_⟩
        · unfold aimD
          rw [mapD_val, if_pos hmem, ej]
          rfl
        · refine ⟨_, rfl, _, rfl, ?_⟩
          have ew : way (mem ns) rs kk = off (mem ns) rs j - off (mem ns) rs kk := by
            unfold way
            rw [ej]
            rfl
          rw [← ew]
          cases c2 : tooL (way (mem ns) rs kk) with
          | true =>
            rw [c2] at end1
            exact iteT ⟨_, rfl, end1 rfl⟩
          | false =>
            rw [c2] at end0
            exact iteF (end0 rfl)
    · rintro H1 ⟨kp, hD1⟩
      have tl : (inn rs).take (aimD rs).length = inn rs := by
        unfold aimD
        rw [mapD_len]
        exact List.take_length
      rw [tl] at hD1
      have hd1 : H1 d = some (.frz od (.dK (aimD rs))) := kp _ _ hDd.symm upd_same
      refine ⟨hd1, q _ D (s0.trans (same_unlock hd0 hDn kp)) ?_ ?_⟩
      · cases e : H D with
        | none => rfl
        | some o => rw [s0 _ _ e] at hDn; cases hDn
      · rw [upd_ne hDd]
        exact hD1
end

/-- what a comprehension wants of a walk -/
def LcW (J : It) (g : TG) (tt : TT) (te : TE) (vs : List Nat) (σ : L2.St) (H1 : Hp) (D : Addr) (Qd : Hp → Prop) : Prop :=
  ∃ W : Nat → Nat → Hp → Prop, (∃ m, W 0 m (upd H1 D (.lst []))) ∧ ∀ i m H, W i m H → (J.stop i H ∧ Qd H) ∨ (J.go i H ∧ ∃ Nx : Hp → Prop, (∀ H', Nx H' → ∃ m', m' < m ∧ W (i + 1) m' H') ∧
    ∀ x H', J.yld i H x H' → g x (wipe σ vs) H' fun σ2 H2 => wipe σ2 vs = wipe σ vs ∧ tt σ2 H2 fun b H3 => if b = true then te σ2 H3 fun y H4 => ∃ acc, H4 D = some (.lst acc) ∧ acc.length < sizeLine ∧ Nx (upd H4 D (.lst (acc ++ [y]))) else Nx H3)
theorem walk_zipT {K : PySem.W.Frag} {a b : Addr} {xs ys : List V} {n : Nat} (hn : n = min xs.length ys.length) : Walk (RZ.ItzT K a b) n (fun H => SqT K H a xs ∧ SqT K H b ys) (YPair (fun i => xs[i]?) (fun i => ys[i]?)) := by
  subst hn
  refine ⟨fun i H hi q => ?_, fun H q => ⟨xs, ys, q.1, q.2, by omega⟩, fun i H v H' hi q y => ?_⟩
  · have h1 : i < xs.length := by omega
    have h2 : i < ys.length := by omega
    exact ⟨xs, ys, xs[i], ys[i], q.1, q.2, List.getElem?_eq_getElem h1, List.getElem?_eq_getElem h2⟩
  · obtain ⟨T, x, z, h1, h2, h3, h4, h5⟩ := y
    exact ⟨T, x, z, h1, h2, h3, h4 xs q.1, h5 ys q.2⟩
theorem cut_from {xs : List V} {r : Nat} (h : r ≤ xs.length) : cutV xs (some (r : Int)) none = xs.drop r := by
  unfold cutV
  rw [HT.sIx_none, HT.sIx_nat, Nat.min_eq_left h]
  rw [List.take_of_length_le (by rw [List.length_drop]; exact Nat.le_refl _)]
theorem cut_to {xs : List V} {r : Nat} (h : r ≤ xs.length) : cutV xs none (some (r : Int)) = xs.take r := by
  unfold cutV
  rw [HT.sIx_none, HT.sIx_nat, List.drop_zero, Nat.sub_zero, Nat.min_eq_left h]
theorem cut_1 (xs : List V) : cutV xs (some 1) none = xs.drop 1 := by
  cases xs with
  | nil => rfl
  | cons x xs => exact cut_from (r := 1) (by simp)
def SqE (K : PySem.W.Frag) (H : Hp) (a : Addr) (xs : List V) : Prop := SqL K H a xs ∨ SqT K H a xs
theorem sqE_same {K : PySem.W.Frag} {H H' : Hp} {a : Addr} {xs : List V} (e : Same H H') (h : SqE K H a xs) : SqE K H' a xs := h.imp (sqL_same e) (sqT_same e)
/-- whether a row ascends -/
def ascN (ns : List Int) (i : Nat) : List Bool := ((ns.zip (ns.drop 1)).take i).map fun p => decide (p.1 < p.2)
def ascB (ns : List Int) : Bool := (ascN ns ns.length).all id
def spAsc (K : PySem.W.Frag) : Sp := fun vs H Q _ => ∃ (a : Addr) (ns : List Int), vs = [.ref a] ∧ SqE K H a (ns.map V.int) ∧ ns.length ≤ 900 ∧ ∀ H', Same H H' → Q (.bl (ascB ns)) H'
abbrev sAsc : Stmt := topS 36
theorem scAsc : FnScope ["row", "one", "other"] ["row"] (defScope sAsc) := ⟨rfl, rfl, rfl, by decide +kernel, rfl, by decide +kernel, by decide +kernel⟩
abbrev g2 (K : PySem.W.Frag) (i j : Nat) : TG := gTup K 2 (gCons (gName i) (gCons (gName j) gNil))
section
variable {P : Program} {w : World} {K : PySem.W.Frag} {mg : Str → Option Value} {base : Heap}
theorem asc_core {J : It} {n : Nat} {G : Hp → Prop} {ns : List Int} {σ : L2.St} {H H1 : Hp} {D : Addr} {Q : VK} {x0 : Option V} (hσ : σ = [x0, none, none]) (hn : n = (ns.zip (ns.drop 1)).length)
    (wk : Walk J n G (YPair (fun i => (ns.map V.int)[i]?) (fun i => ((ns.map V.int).drop 1)[i]?))) (s1 : Same H H1) (hl : ns.length ≤ 900) (hG : ∀ H4, (∀ b o, b ≠ D → H1 b = some o → H4 b = some o) → G H4) (hD : H1 D = none)
    (q : ∀ H' p, Same H H' → H' p = some (.lst ((ascN ns ns.length).map V.bl)) → Q (.ref p) H') : LcW J (g2 K 1 2) tYes (tOp (rI0 fun i j => .bl (decide (i < j))) (tVar 1) (tVar 2)) [1, 2] σ H1 D (fun H' => Q (.ref D) H') := by
  subst hσ
  have zl : (ns.zip (ns.drop 1)).length ≤ ns.length := by
    rw [List.length_zip]
    omega
  refine lc_it wk (fun i H4 => (∀ b o, b ≠ D → H1 b = some o → H4 b = some o) ∧ H4 D = some (.lst ((ascN ns i).map V.bl))) ⟨fun b o hb e => by rw [upd_ne hb]; exact e, by rw [upd_same]; rfl⟩ (fun i H4 _ ⟨kp, _⟩ => hG H4 kp) ?_ ?_
  · rintro i x H4 H4' hi ⟨kp, hD4⟩ ⟨TT, x', y', rfl, hT, rfl, hx', hy'⟩
    have hi2 : i < (ns.zip (ns.drop 1)).length := by omega
    have hz : (ns.zip (ns.drop 1))[i]? = some (ns.zip (ns.drop 1))[i] := List.getElem?_eq_getElem hi2
    obtain ⟨z1, z2⟩ := List.getElem?_zip_eq_some.mp hz
    generalize hp : (ns.zip (ns.drop 1))[i] = p at hz z1 z2
    have e1 : x' = V.int p.1 := by
      have h' : (ns.map V.int)[i]? = some x' := hx'
      rw [List.getElem?_map, z1] at h'
      exact (Option.some.inj h').symm
    have e2 : y' = V.int p.2 := by
      have h' : ((ns.map V.int).drop 1)[i]? = some y' := hy'
      rw [← List.map_drop, List.getElem?_map, z2] at h'
      exact (Option.some.inj h').symm
    subst e1 e2
    have hTD : TT ≠ D := fun z => by rw [z, hD4] at hT; cases hT
    have nx : ascN ns (i + 1) = ascN ns i ++ [decide (p.1 < p.2)] := by
      unfold ascN
      rw [List.take_add_one, hz]
      simp
    refine ⟨TT, _, rfl, SqT.of upd_same, rfl, _, _, rfl, _, _, rfl, rfl, rfl, ?_⟩
    refine yes_go (iteT ⟨_, rfl, _, rfl, _, _, rfl, rfl, _, by rw [upd_ne hTD.symm]; exact hD4, ?_, fun b o hb e => ?_, ?_⟩)
    · rw [List.length_map]
      unfold ascN
      rw [List.length_map, List.length_take]
      exact small1000 (by omega)
    · rw [upd_ne hb]
      have k := kp b o hb e
      rw [upd_ne (ne_of_none k hT)]
      exact k
    · rw [upd_same, nx, List.map_append]
      rfl
  · rintro H4 ⟨kp, hD4⟩
    refine q H4 D (fun b o e => kp b o (ne_of_none (s1 _ _ e) hD) (s1 _ _ e)) ?_
    have e : ascN ns n = ascN ns ns.length := by
      unfold ascN
      rw [List.take_of_length_le (by omega), List.take_of_length_le (by omega)]
    rw [← e]
    exact hD4
theorem ok_asc {f : Addr} {fd : FuncData} (F : Fun K "is_ascending" "is_ascending" sAsc f fd) (T : Bi mg) : FnOk P w K mg base CX0 1 f fd ["row"] (spAsc K) := by
  refine F.ok scAsc (fun vs H Q E h => ?_) (fun cdv A outer s H vs Q E hr h => ?_)
  · obtain ⟨a, ns, rfl, _⟩ := h
    rfl
  · obtain ⟨a, ns, rfl, ha, hl, q⟩ := h
    refine ⟨_, pss_one (ps_ret (pe_callB (cr_all rfl) (by rfl) T.all (by decide +kernel) (pa_cons (pe_lc (own := [("one", 1), ("other", 2)]) (g := g2 K 1 2) (tt := tYes) rfl scAsc.nd (RZ.pi_zipA (by rfl) T.zip (pa_cons (pv 0) (pa_cons (pe_slice (SlR.or sl_list sl_tupA) (pv 0) (po_some pe_int) po_none) pa_nil))) (blkOk_by (N := ["row", "one", "other"]) (sc := defScope sAsc) (by decide +kernel))
      (fun _ _ _ _ _ => (pg_tup rfl (pgs_cons (pg_name (i := 1) scAsc.nd rfl (.inl rfl) (.inr rfl)) (pgs_cons (pg_name (i := 2) scAsc.nd rfl (.inl rfl) (.inr rfl)) pgs_nil)))) (fun _ _ _ _ _ => pts_nil) (fun _ _ _ _ _ => (pe_cmpR op_lt (pv 1) (pv 2) (nomark _)))) pa_nil))), ?_⟩
    have fin : ∀ H' p, Same H H' → H' p = some (.lst ((ascN ns ns.length).map V.bl)) → rAll K [.ref p] H' Q := fun H' p sm hp => ⟨p, _, rfl, SqL.of hp, q H' sm⟩
    have zn : ∀ ys : List V, ys = (ns.map V.int).drop 1 → (ns.zip (ns.drop 1)).length = min (ns.map V.int).length ys.length := by
      intro ys e
      rw [e, List.length_zip, List.length_map, List.length_drop, List.length_drop, List.length_map]
    rcases ha with ha | ha
    · refine ⟨_, rfl, _, rfl, 1, rfl, .inl ⟨a, _, rfl, ha, fun p hp => ?_⟩⟩
      rw [cut_1]
      have sp := same_new (o := .lst ((ns.map V.int).drop 1)) hp
      refine ⟨a, p, _, _, rfl, .inl ⟨sqL_same sp ha, SqL.of upd_same, fun D hD => ?_⟩⟩
      have pD : p ≠ D := fun z => by rw [z, upd_same] at hD; cases hD
      have hDn : H D = none := by
        rw [upd_ne pD.symm] at hD
        exact hD
      refine asc_core (H := H) (x0 := some (.ref a)) (Q := fun v H' => rAll K [v] H' Q) rfl rfl (walk_zip (zn _ rfl)) sp hl (fun H4 kp => ⟨?_, SqL.of (kp _ _ pD upd_same)⟩) hD fin
      exact sqL_same (fun b o e => kp b o (ne_of_none e hDn) (sp _ _ e)) ha
    · refine ⟨_, rfl, _, rfl, 1, rfl, .inr ⟨a, _, rfl, ha, fun hw => ?_, fun hw p hp => ?_⟩⟩
      · have z0 : (ns.map V.int).drop 1 = ns.map V.int := by
          cases ns with
          | nil => rfl
          | cons n ns =>
            have h0 := hw.1
            simp [HT.sIx] at h0
        refine ⟨a, a, _, _, rfl, .inr ⟨ha, (by rw [z0]; exact ha : SqT K H a ((ns.map V.int).drop 1)), fun D hD => ?_⟩⟩
        refine asc_core (H := H) (x0 := some (.ref a)) (Q := fun v H' => rAll K [v] H' Q) rfl rfl (walk_zipT (zn _ rfl)) (Same.refl H) hl (fun H4 kp => ?_) hD fin
        have k1 := sqT_same (fun b o e => kp b o (ne_of_none e hD) e) ha
        exact ⟨k1, by rw [z0]; exact k1⟩
      · rw [cut_1]
        have sp := same_new (o := .tup ((ns.map V.int).drop 1)) hp
        refine ⟨a, p, _, _, rfl, .inr ⟨sqT_same sp ha, SqT.of upd_same, fun D hD => ?_⟩⟩
        have pD : p ≠ D := fun z => by rw [z, upd_same] at hD; cases hD
        have hDn : H D = none := by
          rw [upd_ne pD.symm] at hD
          exact hD
        refine asc_core (H := H) (x0 := some (.ref a)) (Q := fun v H' => rAll K [v] H' Q) rfl rfl (walk_zipT (zn _ rfl)) sp hl (fun H4 kp => ⟨?_, SqT.of (kp _ _ pD upd_same)⟩) hD fin
        exact sqT_same (fun b o e => kp b o (ne_of_none e hDn) (sp _ _ e)) ha
end

theorem dps_ints {K : PySem.W.Frag} {H : Hp} : ∀ ks : List Int, DpAll K H (ks.map V.int) (ks.map PyData.int)
  | [] => .nil
  | k :: ks => .cons (.int k) (dps_ints ks)
/-- a plain number as a sum -/
def sumI (k : Int) : PyData := .tuple [.int k, .tuple []]
theorem sumI_lay : ∀ ks : List Int, PyData.canLayAll0 (ks.map sumI) = true
  | [] => rfl
  | k :: ks => by
    rw [List.map_cons]
    simp [PyData.canLayAll0, sumI, PyData.canLay0, sumI_lay ks]
theorem sumI_depth : ∀ ks : List Int, PyData.depthAll (ks.map sumI) ≤ 5
  | [] => by simp [PyData.depthAll]
  | k :: ks => by
    have h := sumI_depth ks
    have h2 : (sumI k).depth ≤ 5 := by simp [sumI, PyData.depth, PyData.depthAll]
    rw [List.map_cons]
    simp only [PyData.depthAll]
    omega
theorem sumI_shaped (ks : List Int) : SeqAt.shaped (.list (ks.map sumI)) = true := by
  unfold SeqAt.shaped
  have h := sumI_depth ks
  have h1 := sumI_lay ks
  rw [Bool.and_eq_true]
  refine ⟨by simpa [PyData.canLay0] using h1, decide_eq_true ?_⟩
  simp only [PyData.depth]
  omega
theorem sumI_none : ∀ ks : List Int, ((ks.map sumI).any fun z => PyData.eqv z .none) = false
  | [] => rfl
  | k :: ks => by
    rw [List.map_cons, List.any_cons, sumI_none ks]
    simp [sumI, PyData.eqv]
theorem del_same_of {H H' : Hp} {D : Addr} (e : Same H H') : Same (del H D) (del H' D) := fun b o hb => by
  by_cases h : b = D
  · rw [h, del_same] at hb; cases hb
  · rw [del_ne h] at hb ⊢
    exact e _ _ hb
theorem del_sub {H : Hp} {D : Addr} : Same (del H D) H := fun b o hb => by
  by_cases h : b = D
  · rw [h, del_same] at hb; cases hb
  · rw [del_ne h] at hb
    exact hb
theorem del_upd {H : Hp} {D : Addr} {o : HO} : del (upd H D o) D = del H D := by
  funext b
  by_cases h : b = D
  · rw [h, del_same, del_same]
  · rw [del_ne h, del_ne h, upd_ne h]
theorem dps_snoc {K : PySem.W.Frag} {H : Hp} {v : V} {d : PyData} (hv : Dp K H v d) : ∀ {vs : List V} {ds : List PyData}, DpAll K H vs ds → DpAll K H (vs ++ [v]) (ds ++ [d])
  | _, _, .nil => .cons hv .nil
  | _, _, .cons h t => .cons h (dps_snoc hv t)
def spReadSumI (K : PySem.W.Frag) : Sp := fun vs H Q _ => ∃ k : Int, vs = [.int k] ∧ ∀ H' v', Same H H' → (∀ D, H D ≠ none → Dp K (del H' D) v' (sumI k)) → Q v' H'
abbrev sReadSum : Stmt := topS 19
theorem scReadSum : FnScope ["thing", "multiples", "part", "unknown"] ["thing"] (defScope sReadSum) := ⟨rfl, rfl, rfl, by decide +kernel, rfl, by decide +kernel, by decide +kernel⟩
/-- the dict NEAR_CODES -/
def nearL : List Str := ["ask", "go", "call"]
structure Near (K : PySem.W.Frag) (w : World) (mg : Str → Option Value) (d : Addr) : Prop where
  g : mg "NEAR_CODES" = some (.ref d)
  kd : ∃ es n, KDict K w d es n
  has : ∀ z ∈ nearL, ∃ r, PySem.W.nsIn K d z = some (some r)
def RowL (K : PySem.W.Frag) (H : Hp) (v : V) : Row → Prop
  | .words n => ∃ (a b : Addr) (ks : List Int), v = .ref a ∧ SqT K H a [.str "words", .ref b] ∧ SqL K H b (ks.map V.int) ∧ ks.length = n
  | .label s => ∃ a, v = .ref a ∧ SqT K H a [.str "label", .str s]
  | .even n => ∃ a, v = .ref a ∧ SqT K H a [.str "even", .int n]
  | .branch c n m => ∃ a, v = .ref a ∧ SqT K H a [.str "branch", .str c, .str n, .int m]
theorem rowL_V {K : PySem.W.Frag} {H : Hp} {v : V} {r : Row} (h : RowL K H v r) : RowV K H v r := by
  cases r with
  | words n =>
    obtain ⟨a, b, ks, h1, h2, h3, h4⟩ := h
    exact ⟨a, b, h1, h2, _, .inl h3, by rw [List.length_map]; exact h4⟩
  | label s => exact h
  | even n => exact h
  | branch c n m => exact h
theorem rowL_same {K : PySem.W.Frag} {H H' : Hp} {v : V} {r : Row} (e : Same H H') (h : RowL K H v r) : RowL K H' v r := by
  cases r with
  | words n =>
    obtain ⟨a, b, ks, h1, h2, h3, h4⟩ := h
    exact ⟨a, b, ks, h1, sqT_same e h2, sqL_same e h3, h4⟩
  | label s => exact rowV_same (r := .label s) e h
  | even n => exact rowV_same (r := .even n) e h
  | branch c n m => exact rowV_same (r := .branch c n m) e h
/-- a row that was read: tuples alone -/
def RowP (K : PySem.W.Frag) (H : Hp) (v : V) : Row → Prop
  | .words n => ∃ a b xs, v = .ref a ∧ SqT K H a [.str "words", .ref b] ∧ SqT K H b xs ∧ xs.length = n
  | .label s => ∃ a, v = .ref a ∧ SqT K H a [.str "label", .str s]
  | .even n => ∃ a, v = .ref a ∧ SqT K H a [.str "even", .int n]
  | .branch c n m => ∃ a, v = .ref a ∧ SqT K H a [.str "branch", .str c, .str n, .int m]
theorem rowP_V {K : PySem.W.Frag} {H : Hp} {v : V} {r : Row} (h : RowP K H v r) : RowV K H v r := by
  cases r with
  | words n =>
    obtain ⟨a, b, xs, h1, h2, h3, h4⟩ := h
    exact ⟨a, b, h1, h2, xs, .inr h3, h4⟩
  | label s => exact h
  | even n => exact h
  | branch c n m => exact h
theorem rowP_of {K : PySem.W.Frag} {H H' : Hp} {v : V} {r : Row} (e : ∀ a xs, SqT K H a xs → SqT K H' a xs) (h : RowP K H v r) : RowP K H' v r := by
  cases r with
  | words n =>
    obtain ⟨a, b, xs, h1, h2, h3, h4⟩ := h
    exact ⟨a, b, xs, h1, e _ _ h2, e _ _ h3, h4⟩
  | label s =>
    obtain ⟨a, h1, h2⟩ := h
    exact ⟨a, h1, e _ _ h2⟩
  | even n =>
    obtain ⟨a, h1, h2⟩ := h
    exact ⟨a, h1, e _ _ h2⟩
  | branch c n m =>
    obtain ⟨a, h1, h2⟩ := h
    exact ⟨a, h1, e _ _ h2⟩
def notTup : HO → Prop
  | .tup _ => False
  | .frz _ (.tup _) => False
  | _ => True
/-- a tuple stays where something else changes -/
theorem sqT_put {K : PySem.W.Frag} {H : Hp} {a S : Addr} {xs : List V} {o o' : HO} (h : SqT K H a xs) (hS : H S = some o) (ho : notTup o) : SqT K (upd H S o') a xs := by
  rcases h with (h | ⟨u, h⟩) | h
  · have aS : a ≠ S := fun z => by
      rw [z, hS] at h
      cases h
      exact ho
    exact .inl (.inl (by rw [upd_ne aS]; exact h))
  · have aS : a ≠ S := fun z => by
      rw [z, hS] at h
      cases h
      exact ho
    exact .inl (.inr ⟨u, by rw [upd_ne aS]; exact h⟩)
  · exact .inr h
/-- a row that is one -/
def RowFine : Row → Prop
  | .words n => n ≤ 900
  | .label s => isNmS s = true ∧ s.length ≤ 1000
  | .even n => 1 ≤ n ∧ n ≤ 64
  | .branch c n _ => c ∈ nearL ∧ isNmS n = true ∧ n.length ≤ 1000
theorem fine_ok {r : Row} (h : RowFine r) : RowOk r := by
  cases r with
  | even n => exact (by have h1 : 1 ≤ n ∧ n ≤ 64 := h; show 0 < n; omega)
  | _ => trivial
def spReadWords (K : PySem.W.Frag) : Sp := fun vs H Q _ => ∃ (b : Addr) (ks : List Int), vs = [.ref b] ∧ SqL K H b (ks.map V.int) ∧ ks.length ≤ 900 ∧ ∀ H' v', Same H H' → RowP K H' v' (.words ks.length) → Q v' H'
def spReadBranch (K : PySem.W.Frag) : Sp := fun vs H Q _ => ∃ (c n : Str) (m : Int), vs = [.str c, .str n, .int m] ∧ RowFine (.branch c n m) ∧ ∀ H' v', Same H H' → RowP K H' v' (.branch c n m) → Q v' H'
def spReadRow (K : PySem.W.Frag) : Sp := fun vs H Q _ => ∃ v r, vs = [v] ∧ RowL K H v r ∧ RowFine r ∧ ∀ H' v', Same H H' → RowP K H' v' r → Q v' H'
abbrev sReadWords : Stmt := topS 24
abbrev sReadBranch : Stmt := topS 25
abbrev sReadRow : Stmt := topS 26
theorem scReadWords : FnScope ["thing", "sums", "word"] ["thing"] (defScope sReadWords) := ⟨rfl, rfl, rfl, by decide +kernel, rfl, by decide +kernel, by decide +kernel⟩
theorem scReadBranch : FnScope ["called", "n", "more"] ["called", "n", "more"] (defScope sReadBranch) := ⟨rfl, rfl, rfl, by decide +kernel, rfl, by decide +kernel, by decide +kernel⟩
theorem scReadRow : FnScope ["thing", "kind", "of"] ["thing"] (defScope sReadRow) := ⟨rfl, rfl, rfl, by decide +kernel, rfl, by decide +kernel, by decide +kernel⟩
/-- is_row of a list or tuple, whatever it holds -/
def spIsRowR (K : PySem.W.Frag) : Sp := fun vs H Q _ => ∃ a xs, vs = [.ref a] ∧ SqE K H a xs ∧ ∀ H', Same H H' → Q (.bl true) H'
section
variable {P : Program} {w : World} {K : PySem.W.Frag} {mg : Str → Option Value} {base : Heap}
theorem ok_isRowR {f : Addr} {fd : FuncData} (F : Fun K "is_row" "is_row" sIsRow f fd) (T : Bi mg) : FnOk P w K mg base CX0 1 f fd ["thing"] (spIsRowR K) := by
  refine F.ok scIsRow (fun vs H Q E h => ?_) (fun cdv A outer s H vs Q E hr h => ?_)
  · obtain ⟨a, xs, rfl, _⟩ := h
    rfl
  · obtain ⟨a, xs, rfl, ha, q⟩ := h
    refine ⟨_, (pss_one (ps_ret (pe_callB call_isiT (by rfl) T.isinstance (by decide +kernel) (pa_cons (pv 0) (pa_cons (pe_tup (pa_cons (pe_bltn (v := .ty "list") (by rfl) T.list (by decide +kernel) rfl) (pa_cons (pe_bltn (v := .ty "tuple") (by rfl) T.tuple (by decide +kernel) rfl) pa_nil))) pa_nil))))), ?_⟩
    refine ⟨_, rfl, (by show 2 ≤ sizeLine; decide), fun p hp => ?_⟩
    rcases ha with ha | ha
    · exact ⟨.ref a, p, _, _, _, _, rfl, upd_same, .cons (.ty "list") (.cons (.ty "tuple") .nil), ty_list (sqL_same (same_new hp) ha), kit_row (.list []), q _ (same_new hp)⟩
    · exact ⟨.ref a, p, _, _, _, _, rfl, upd_same, .cons (.ty "list") (.cons (.ty "tuple") .nil), ty_tup (sqT_same (same_new hp) ha), kit_row (.tuple []), q _ (same_new hp)⟩
theorem hu65 {A : Around} {k : Nat} (hr : Room k A) : A.units + 65 < cLine := by
  have := hr.un
  omega
theorem ok_readSumI {f : Addr} {fd : FuncData} (F : Fun K "read_sum" "read_sum" sReadSum f fd) (G1 : Has P w K mg base CX0 1 "is_integer" ["thing"] (spIsInt K)) : FnOk P w K mg base CX0 2 f fd ["thing"] (spReadSumI K) := by
  refine F.ok scReadSum (fun vs H Q E h => ?_) (fun cdv A outer s H vs Q E hr h => ?_)
  · obtain ⟨k, rfl, _⟩ := h
    rfl
  · obtain ⟨k, rfl, q⟩ := h
    refine ⟨_, (pss_cons (ps_if (pt_val (pe_callH G1 hr (by rfl) pass0 (pa_cons (pv 0) pa_nil))) (pss_one (ps_ret (pe_tup (pa_cons (pv 0) (pa_cons (pe_tup pa_nil) pa_nil))))) pss_nil)
      (pss_cons ps_never (pss_cons ps_never (pss_cons ps_never (pss_one ps_never))))), ?_⟩
    refine ⟨_, rfl, _, _, rfl, .dat (.int k), _, rfl, iteT ⟨_, rfl, Nat.zero_le _, fun e he => ⟨(by show 2 ≤ sizeLine; decide), fun p hp => ?_⟩⟩⟩
    have hpn : H p = none := by
      cases z : H p with
      | none => rfl
      | some o => rw [same_new he _ _ z] at hp; cases hp
    refine q _ _ ((same_new he).trans (same_new hp)) fun D hD => ?_
    have pD : p ≠ D := fun z => hD (z ▸ hpn)
    have eD : e ≠ D := fun z => hD (z ▸ he)
    have hep : e ≠ p := fun z => by rw [z] at he; rw [← z, upd_same] at hp; cases hp
    refine .tup (SqT.of (by rw [del_ne pD]; exact upd_same)) (.cons (.int k) (.cons (.tup (xs := []) (SqT.of ?_) .nil) .nil))
    rw [del_ne eD, upd_ne hep]
    exact upd_same
theorem ok_readWords {f : Addr} {fd : FuncData} (F : Fun K "read_words" "read_words" sReadWords f fd) (T : Bi mg) (G1 : Has P w K mg base CX0 2 "is_row" ["thing"] (spIsRow K)) (G2 : Has P w K mg base CX0 2 "read_sum" ["thing"] (spReadSumI K)) : FnOk P w K mg base CX0 3 f fd ["thing"] (spReadWords K) := by
  refine F.ok scReadWords (fun vs H Q E h => ?_) (fun cdv A outer s H vs Q E hr h => ?_)
  · obtain ⟨b, ks, rfl, _⟩ := h
    rfl
  · obtain ⟨b, ks, rfl, hb, hl, q⟩ := h
    refine ⟨_, (pss_cons (ps_if (pt_not (pt_val (pe_callH G1 hr (by rfl) pass0 (pa_cons (pv 0) pa_nil)))) (pss_one (ps_ret pe_non)) pss_nil)
      (pss_cons (ps_setLc (i := 1) (own := [("word", 2)]) (g := gName 2) (tt := tYes) rfl scReadWords.nd rfl rfl (sw_true rfl rfl rfl (by decide +kernel)) (pi_list (pv 0)) (blkOk_by (N := ["thing", "sums", "word"]) (sc := defScope sReadWords) (by decide +kernel)) (fun _ _ _ _ _ => pg_name (i := 2) scReadWords.nd rfl (.inl rfl)) (fun _ _ _ _ _ => pts_nil) (fun _ _ _ _ _ => (pe_callH G2 hr (by rfl) pass0 (pa_cons (pv 2) pa_nil))))
      (pss_one (ps_ret (pe_ifExp (pt_cmpR (op_inD (hu65 hr)) pe_non (pv 1) (by rfl)) pe_non (pe_tup (pa_cons pe_str (pa_cons (pe_callTy call_tuple_of (by rfl) T.tuple (by decide +kernel) (pa_cons (pv 1) pa_nil)) pa_nil)))))))), ?_⟩
    refine ⟨_, rfl, _, _, rfl, .dat (.lst hb (dps_ints ks)), fun H1 s1 => ⟨_, rfl, iteF ?_⟩⟩
    have hb1 := sqL_same s1 hb
    refine ⟨_, rfl, b, rfl, ⟨_, hb1⟩, fun D hD => ?_⟩
    refine lc_it walk_list (fun i H4 => (∀ c o, c ≠ D → H1 c = some o → H4 c = some o) ∧ ∃ ys, H4 D = some (.lst ys) ∧ DpAll K (del H4 D) ys ((ks.take i).map sumI)) ⟨fun c o hc e => by rw [upd_ne hc]; exact e, [], upd_same, .nil⟩
      (fun i H4 _ ⟨kp, _⟩ => sqL_same (fun c o e => kp c o (ne_of_none e hD) e) hb1) ?_ ?_
    · rintro i x H4 H4' hi ⟨kp, ys, hD4, hys⟩ ⟨rfl, hx⟩
      obtain ⟨k, hk, rfl⟩ : ∃ k, ks[i]? = some k ∧ x = V.int k := by
        rw [List.getElem?_map] at hx
        cases e : ks[i]? with
        | none => rw [e] at hx; cases hx
        | some k => rw [e] at hx; exact ⟨k, rfl, (Option.some.inj hx).symm⟩
      have hi2 : i < ks.length := (List.getElem?_eq_some_iff.mp hk).1
      refine ⟨rfl, yes_go (iteT ⟨_, rfl, k, rfl, fun H5 v5 s5 hv5 => ?_⟩)⟩
      have hD5 := s5 _ _ hD4
      have yl : ys.length = i := by
        rw [dps_len hys, List.length_map, List.length_take]
        omega
      refine ⟨ys, hD5, small1000 (by omega), fun c o hc ec => ?_, ys ++ [v5], upd_same, ?_⟩
      · rw [upd_ne hc]
        exact s5 _ _ (kp c o hc ec)
      · rw [del_upd, List.take_add_one, hk, List.map_append]
        exact dps_snoc (hv5 D (by rw [hD4]; simp)) (dps_same (del_same_of s5) hys)
    · rintro H4 ⟨kp, ys, hD4, hys⟩
      rw [List.length_map, List.take_length] at hys
      have yl : ys.length = ks.length := by rw [dps_len hys, List.length_map]
      have s4 : Same H H4 := fun c o e => kp c o (ne_of_none (s1 _ _ e) hD) (s1 _ _ e)
      refine ⟨_, rfl, .none, ks.map sumI, .non, .lst (SqL.of hD4) (dps_same del_sub hys), rfl, sumI_shaped ks, _, rfl, ?_⟩
      rw [sumI_none]
      refine iteF ⟨_, rfl, D, ys, rfl, .inl ⟨SqL.of hD4, fun t ht => ⟨(by show 2 ≤ sizeLine; decide), fun p hp => ?_⟩⟩⟩
      exact q _ _ ((s4.trans (same_new ht)).trans (same_new hp)) ⟨p, t, ys, rfl, SqT.of upd_same, SqT.of (same_new hp _ _ upd_same), yl⟩
end

theorem in_ints {k : Int} {ns : List Int} {b : Bool} (h : decide (k ∈ ns) = b) : inV (.int k) (ns.map V.int) = b := by
  rw [inV_ints]
  exact h
theorem intEqb {a b : Int} {Q : Bool → Prop} {c : Bool} (h : decide (a = b) = c) (q : Q c) : Q (decide (V.int a = V.int b)) := by
  rw [intEq, h]
  exact q
section
variable {P : Program} {w : World} {K : PySem.W.Frag} {mg : Str → Option Value} {base : Heap}
theorem ok_readBranch {f d0 : Addr} {fd : FuncData} (F : Fun K "read_branch" "read_branch" sReadBranch f fd) (T : Bi mg) (N : Near K w mg d0) (G1 : Has P w K mg base CX0 2 "is_name" ["thing"] (spIsName K)) (G2 : Has P w K mg base CX0 2 "is_integer" ["thing"] (spIsInt K)) :
    FnOk P w K mg base CX0 3 f fd ["called", "n", "more"] (spReadBranch K) := by
  refine F.ok scReadBranch (fun vs H Q E h => ?_) (fun cdv A outer s H vs Q E hr h => ?_)
  · obtain ⟨c, n, m, rfl, _⟩ := h
    rfl
  · obtain ⟨c, n, m, rfl, hf, q⟩ := h
    obtain ⟨h1, h2, h3⟩ := hf
    obtain ⟨es, nn, kd⟩ := N.kd
    obtain ⟨r, hr1⟩ := N.has c h1
    refine ⟨_, (pss_cons (ps_if (PW.pt (pw_or (pt_not (pt_val (pe_callB call_isi (by rfl) T.isinstance (by decide +kernel) (pa_cons (pv 0) (pa_cons (pe_bltn (v := .ty "str") (by rfl) T.str (by decide +kernel) rfl) pa_nil))))) (pw_or (pt_cmpR (op_notIn_kd kd) (pv 0) (pe_glob (v := .ref d0) rfl N.g rfl) (by rfl)) (pw_or (pt_not (pt_val (pe_callH G1 hr (by rfl) pass0 (pa_cons (pv 1) pa_nil)))) (pw_or1 (pt_not (pt_val (pe_callH G2 hr (by rfl) pass0 (pa_cons (pv 2) pa_nil))))))))) (pss_one (ps_ret pe_non)) pss_nil)
      (pss_one (ps_ret (pe_tup (pa_cons pe_str (pa_cons (pv 0) (pa_cons (pv 1) (pa_cons (pv 2) pa_nil)))))))), ?_⟩
    refine ⟨_, rfl, _, _, _, _, _, rfl, .ty "str", th_ty (.dat (.str c)), kit_str (.str c), _, rfl, iteF ?_⟩
    refine ⟨_, rfl, c, _, rfl, rfl, hr1, _, rfl, iteF ?_⟩
    refine ⟨_, rfl, _, _, rfl, .dat (.str n), h3, fun H1 s1 => ⟨_, rfl, ?_⟩⟩
    have en : isNm (.str n) = true := h2
    rw [en]
    refine iteF ⟨_, rfl, _, _, rfl, .dat (.int m), _, rfl, iteF ?_⟩
    exact ⟨_, rfl, _, rfl, _, rfl, (by show 4 ≤ sizeLine; decide), fun p hp => q _ _ (s1.trans (same_new hp)) ⟨p, rfl, SqT.of upd_same⟩⟩
theorem ok_readRow {f : Addr} {fd : FuncData} (F : Fun K "read_row" "read_row" sReadRow f fd) (T : Bi mg) (G1 : Has P w K mg base CX0 3 "is_row" ["thing"] (spIsRow K)) (G2 : Has P w K mg base CX0 3 "is_name" ["thing"] (spIsName K)) (G3 : Has P w K mg base CX0 3 "is_integer" ["thing"] (spIsInt K))
    (G4 : Has P w K mg base CX0 3 "read_branch" ["called", "n", "more"] (spReadBranch K)) (G5 : Has P w K mg base CX0 3 "read_words" ["thing"] (spReadWords K)) : FnOk P w K mg base CX0 4 f fd ["thing"] (spReadRow K) := by
  refine F.ok scReadRow (fun vs H Q E h => ?_) (fun cdv A outer s H vs Q E hr h => ?_)
  · obtain ⟨v, r, rfl, _⟩ := h
    rfl
  · obtain ⟨v, r, rfl, hv, hf, q⟩ := h
    refine ⟨_, (pss_cons (ps_if (PW.pt (pw_or (pt_not (pt_val (pe_callH G1 hr (by rfl) pass0 (pa_cons (pv 0) pa_nil)))) (pw_or (pt_cmpR op_notIn_seq (pe_callB call_len_seq (by rfl) T.len (by decide +kernel) (pa_cons (pv 0) pa_nil)) (pe_tup (pa_cons pe_int (pa_cons pe_int pa_nil))) (by rfl)) (pw_or1 (pt_not (pt_val (pe_callB call_isi (by rfl) T.isinstance (by decide +kernel) (pa_cons (pe_ix ix_tup (pv 0) pe_int (fun _ _ => rfl)) (pa_cons (pe_bltn (v := .ty "str") (by rfl) T.str (by decide +kernel) rfl) pa_nil))))))))) (pss_one (ps_ret pe_non)) pss_nil)
      (pss_cons (ps_if (pt_cmpR op_eq (pe_callB call_len_seq (by rfl) T.len (by decide +kernel) (pa_cons (pv 0) pa_nil)) pe_int (nomark _)) (pss_one (ps_ret (pe_ifExp (pt_cmpR op_eq (pe_ix ix_tup (pv 0) pe_int (fun _ _ => rfl)) pe_str (nomark _)) (pe_callH G4 hr (by rfl) pass0 (pa_cons (pe_ix ix_tup (pv 0) pe_int (fun _ _ => rfl)) (pa_cons (pe_ix ix_tup (pv 0) pe_int (fun _ _ => rfl)) (pa_cons (pe_ix ix_tup (pv 0) pe_int (fun _ _ => rfl)) pa_nil)))) pe_non))) pss_nil)
      (pss_cons (ps_asg (pv 0) (pg_tup rfl (pgs_cons (pg_name (i := 1) scReadRow.nd rfl (.inl rfl)) (pgs_cons (pg_name (i := 2) scReadRow.nd rfl (.inl rfl)) pgs_nil))))
      (pss_cons (ps_if (pt_cmpR op_eq (pv 1) pe_str (nomark _)) (pss_one (ps_ret (pe_callH G5 hr (by rfl) pass0 (pa_cons (pv 2) pa_nil)))) pss_nil)
      (pss_cons (ps_if (PW.pt (pw_and (pt_cmpR op_eq (pv 1) pe_str (nomark _)) (pw_and1 (pt_val (pe_callH G2 hr (by rfl) pass0 (pa_cons (pv 2) pa_nil)))))) (pss_one (ps_ret (pe_tup (pa_cons pe_str (pa_cons (pv 2) pa_nil))))) pss_nil)
      (pss_cons (ps_if (PW.pt (pw_and (pt_cmpR op_eq (pv 1) pe_str (nomark _)) (pw_and (pt_val (pe_callH G3 hr (by rfl) pass0 (pa_cons (pv 2) pa_nil))) (pw_and1 (pt_chain op_le op_le pe_int (pv 2) pe_int))))) (pss_one (ps_ret (pe_tup (pa_cons pe_str (pa_cons (pv 2) pa_nil))))) pss_nil)
      (pss_one (ps_ret pe_non)))))))), ?_⟩
    cases r with
    | words n =>
      obtain ⟨a, b, ks, rfl, h2, h3, h4⟩ := hv
      have hd : Dp K H (.ref a) (.tuple [.str "words", .list (ks.map .int)]) := .tup h2 (.cons (.str _) (.cons (.lst h3 (dps_ints ks)) .nil))
      refine ⟨_, rfl, _, _, rfl, .dat hd, fun H1 s1 => ⟨_, rfl, iteF ?_⟩⟩
      have h21 := sqT_same s1 h2
      refine ⟨_, rfl, a, _, rfl, .inr h21, (by show 2 ≤ sizeLine; decide), fun p hp => ?_⟩
      have s2 := s1.trans (same_new (o := .tup [V.int 2, V.int 4]) hp)
      have h22 := sqT_same s2 h2
      refine ⟨p, [V.int 2, V.int 4], rfl, .inr (SqT.of upd_same), rfl, rfl, _, rfl, iteF ?_⟩
      refine ⟨_, rfl, a, _, _, _, rfl, rfl, h22, at_of (i := 0) rfl, _, _, _, _, _, rfl, .ty "str", th_ty (.dat (.str _)), kit_str (.str _), _, rfl, iteF ?_⟩
      refine ⟨_, rfl, a, _, rfl, .inr h22, rfl, _, rfl, iteF ?_⟩
      refine ⟨_, rfl, a, _, rfl, h22, rfl, _, _, rfl, _, _, rfl, rfl, ?_⟩
      refine ⟨_, rfl, rfl, _, rfl, kEq (by decide +kernel) ?_⟩
      refine ⟨_, rfl, b, ks, rfl, sqL_same s2 h3, (by have h9 : n ≤ 900 := hf; omega), fun H' v' s3 hv' => q H' v' (s2.trans s3) ?_⟩
      rw [h4] at hv'
      exact hv'
    | label z =>
      obtain ⟨a, rfl, h2⟩ := hv
      have hd : Dp K H (.ref a) (.tuple [.str "label", .str z]) := .tup h2 (.cons (.str _) (.cons (.str _) .nil))
      refine ⟨_, rfl, _, _, rfl, .dat hd, fun H1 s1 => ⟨_, rfl, iteF ?_⟩⟩
      have h21 := sqT_same s1 h2
      refine ⟨_, rfl, a, _, rfl, .inr h21, (by show 2 ≤ sizeLine; decide), fun p hp => ?_⟩
      have s2 := s1.trans (same_new (o := .tup [V.int 2, V.int 4]) hp)
      have h22 := sqT_same s2 h2
      refine ⟨p, [V.int 2, V.int 4], rfl, .inr (SqT.of upd_same), rfl, rfl, _, rfl, iteF ?_⟩
      refine ⟨_, rfl, a, _, _, _, rfl, rfl, h22, at_of (i := 0) rfl, _, _, _, _, _, rfl, .ty "str", th_ty (.dat (.str _)), kit_str (.str _), _, rfl, iteF ?_⟩
      refine ⟨_, rfl, a, _, rfl, .inr h22, rfl, _, rfl, iteF ?_⟩
      refine ⟨_, rfl, a, _, rfl, h22, rfl, _, _, rfl, _, _, rfl, rfl, ?_⟩
      refine ⟨_, rfl, rfl, _, rfl, kNe (by decide +kernel) ?_⟩
      refine ⟨_, rfl, rfl, _, rfl, kEq (by decide +kernel) ?_⟩
      refine ⟨_, rfl, _, _, rfl, .dat (.str z), hf.2, fun H3 s3 => ⟨_, rfl, ?_⟩⟩
      have en : isNm (.str z) = true := hf.1
      rw [en]
      exact iteT ⟨_, rfl, (by show 2 ≤ sizeLine; decide), fun p2 hp2 => q _ _ ((s2.trans s3).trans (same_new hp2)) ⟨p2, rfl, SqT.of upd_same⟩⟩
    | even n =>
      obtain ⟨a, rfl, h2⟩ := hv
      have hd : Dp K H (.ref a) (.tuple [.str "even", .int n]) := .tup h2 (.cons (.str _) (.cons (.int _) .nil))
      refine ⟨_, rfl, _, _, rfl, .dat hd, fun H1 s1 => ⟨_, rfl, iteF ?_⟩⟩
      have h21 := sqT_same s1 h2
      refine ⟨_, rfl, a, _, rfl, .inr h21, (by show 2 ≤ sizeLine; decide), fun p hp => ?_⟩
      have s2 := s1.trans (same_new (o := .tup [V.int 2, V.int 4]) hp)
      have h22 := sqT_same s2 h2
      refine ⟨p, [V.int 2, V.int 4], rfl, .inr (SqT.of upd_same), rfl, rfl, _, rfl, iteF ?_⟩
      refine ⟨_, rfl, a, _, _, _, rfl, rfl, h22, at_of (i := 0) rfl, _, _, _, _, _, rfl, .ty "str", th_ty (.dat (.str _)), kit_str (.str _), _, rfl, iteF ?_⟩
      refine ⟨_, rfl, a, _, rfl, .inr h22, rfl, _, rfl, iteF ?_⟩
      refine ⟨_, rfl, a, _, rfl, h22, rfl, _, _, rfl, _, _, rfl, rfl, ?_⟩
      refine ⟨_, rfl, rfl, _, rfl, kNe (by decide +kernel) ?_⟩
      refine ⟨_, rfl, rfl, _, rfl, kNe (by decide +kernel) (iteF ?_)⟩
      refine ⟨_, rfl, rfl, _, rfl, kEq (by decide +kernel) ?_⟩
      refine ⟨_, rfl, _, _, rfl, .dat (.int n), _, rfl, iteT ?_⟩
      have hf1 : 1 ≤ n ∧ n ≤ 64 := hf
      refine ⟨_, rfl, _, _, rfl, rfl, _, rfl, ?_⟩
      rw [decide_eq_true hf1.1]
      refine iteT ⟨_, _, rfl, rfl, _, rfl, ?_⟩
      rw [decide_eq_true hf1.2]
      exact iteT ⟨_, rfl, (by show 2 ≤ sizeLine; decide), fun p2 hp2 => q _ _ (s2.trans (same_new hp2)) ⟨p2, rfl, SqT.of upd_same⟩⟩
    | branch c n m =>
      obtain ⟨a, rfl, h2⟩ := hv
      have hd : Dp K H (.ref a) (.tuple [.str "branch", .str c, .str n, .int m]) := .tup h2 (.cons (.str _) (.cons (.str _) (.cons (.str _) (.cons (.int _) .nil))))
      refine ⟨_, rfl, _, _, rfl, .dat hd, fun H1 s1 => ⟨_, rfl, iteF ?_⟩⟩
      have h21 := sqT_same s1 h2
      refine ⟨_, rfl, a, _, rfl, .inr h21, (by show 2 ≤ sizeLine; decide), fun p hp => ?_⟩
      have s2 := s1.trans (same_new (o := .tup [V.int 2, V.int 4]) hp)
      have h22 := sqT_same s2 h2
      refine ⟨p, [V.int 2, V.int 4], rfl, .inr (SqT.of upd_same), rfl, rfl, _, rfl, iteF ?_⟩
      refine ⟨_, rfl, a, _, _, _, rfl, rfl, h22, at_of (i := 0) rfl, _, _, _, _, _, rfl, .ty "str", th_ty (.dat (.str _)), kit_str (.str _), _, rfl, iteF ?_⟩
      refine ⟨_, rfl, a, _, rfl, .inr h22, rfl, _, rfl, iteT ?_⟩
      refine ⟨_, rfl, a, _, _, _, rfl, rfl, h22, at_of (i := 0) rfl, rfl, _, rfl, kEq (by decide +kernel) ?_⟩
      refine ⟨_, rfl, a, _, _, _, rfl, rfl, h22, at_of (i := 1) rfl, _, rfl, a, _, _, _, rfl, rfl, h22, at_of (i := 2) rfl, _, rfl, a, _, _, _, rfl, rfl, h22, at_of (i := 3) rfl, ?_⟩
      exact ⟨c, n, m, rfl, hf, fun H' v' s3 hv' => q H' v' (s2.trans s3) hv'⟩
end

/-- y = {k: v for ..}, y a local name -/
theorem ps_setDc {X : Cx} {i : Nat} {y : Str} {py : Pos} {kx vx tg iter : Expr} {ifs : List Expr} {scope : Scope} {own : List (Str × Nat)} {pos spos : Pos} {wi : TI} {g : TG} {tt : TT} {tk tv : TE} (calm : X.calm = true) (nd : X.N.Nodup) (slot : X.N[i]? = some y) (isLoc : X.env.scope.names.lookup y = some .local)
    (sw : swapsWith (.DictComp kx vx [⟨tg, iter, ifs, 0⟩] scope pos) (some (.Name y py)) spos.line X.env = pure true) (hi : PI X tg iter wi) (ok : BlkOk X.N X.env.scope scope own)
    (p1 : ∀ (s : Shared) (H : Hp) (C : Addr) (cl : List (Str × Addr)) (fp : List Addr), PG (X.blk s H scope (compEnvC scope cl C X.env) fp) tg g)
    (p2 : ∀ (s : Shared) (H : Hp) (C : Addr) (cl : List (Str × Addr)) (fp : List Addr), PTs (X.blk s H scope (compEnvC scope cl C X.env) fp) ifs tt)
    (p3 : ∀ (s : Shared) (H : Hp) (C : Addr) (cl : List (Str × Addr)) (fp : List Addr), PE (X.blk s H scope (compEnvC scope cl C X.env) fp) kx tk)
    (p4 : ∀ (s : Shared) (H : Hp) (C : Addr) (cl : List (Str × Addr)) (fp : List Addr), PE (X.blk s H scope (compEnvC scope cl C X.env) fp) vx tv) (fold : ∀ x, foldedSetIterable iter X.env x = pure x := by intro _; rfl) :
    PS X (.Assign [.Name y py] (.DictComp kx vx [⟨tg, iter, ifs, 0⟩] scope pos) spos) (tAsg (tDc wi g tt tk tv (own.map (·.2))) (gName i)) := by
  constructor
  intro pins s σ H D I want
  rw [exec_Assign_Name_used _ _ _ _ sw]
  refine wpAny_bind (wpAny_standAt (wpAny_bind ?_))
  show wpAny _ X.A (do let _ ← comprehension (.DictComp kx vx [⟨tg, iter, ifs, 0⟩] scope pos) scope X.env (firstIterPos [⟨tg, iter, ifs, 0⟩] pos) newDict false (eval iter X.env) (some (assign (.Name y py) X.env))) _ _ s
  have want' : tDc wi g tt tk tv (own.map (·.2)) σ H (fun x H1 => gName i x σ H1 D.nx) := want
  refine wpAny_bind (thn (dc_core (Qf := fun _ s' => SP X pins D .next s') calm nd I hi ok p1 p2 p3 p4 fold want' fun L C s' m H' I' q hn ff => ?_) fun _ s' hq => wpAny_pure (wpAny_pure hq))
  show wpAny _ _ (assign (.Name y py) X.env (.ref L)) _ _ _
  refine wpAny_assign_Name (store_ok2 (v := V.ref L) I' nd slot (.inl isLoc) rfl (fun s2 I2 there => ?_) (.inr isLoc))
  obtain ⟨a, sb, ha⟩ := there
  have ⟨u0, u1, u2, u3, u4, u5⟩ := ff
  have apart : C ≠ a := by
    rcases ha with z | z
    · exact fun e => u1 (e.trans z)
    · exact fun e => u4 y a z e.symm
  exact ⟨m, hn.sameBut sb apart, fun h3 sb3 => ⟨_, H', I2.turned (t' := s2.toks) (fun b o hb e => (sb3.2 b hb).trans e) u0 u1 u3 u4 u5, q⟩⟩
theorem sw_dict {kx vx : Expr} {gs : List Comprehension} {scope : Scope} {pos py : Pos} {y : Str} {l : Nat} {env : Env} (isF : env.scope.kind = .function) (isL : env.scope.names.lookup y = some .local) (line : (py.line == pos.line) = true)
    (not : (scope.names.any fun (n, k) => n == y && (k == .local || k == .cell)) = false) : swapsWith (.DictComp kx vx gs scope pos) (some (.Name y py)) l env = pure true := by
  have k1 : env.kindOf y = some .local := isL
  have k2 : env.blockKind = .function := by
    unfold Env.blockKind
    rw [isF]
    rfl
  unfold swapsWith
  simp only [k2, k1, not, Expr.pos, line]
  rfl
/-- the labels of the first i rows, as keys -/
def labT (rs : List Row) : Nat → List (Key × V)
  | 0 => []
  | i + 1 => match labOf rs i with
    | some s => putK (labT rs i) (Sum.inr s) (.bl true)
    | none => labT rs i
theorem labT_len (rs : List Row) : ∀ i, (labT rs i).length ≤ i
  | 0 => Nat.le_refl _
  | i + 1 => by
    unfold labT
    have h := labT_len rs i
    split
    · have := length_putK (labT rs i) (Sum.inr (by assumption) : Key) (.bl true)
      omega
    · omega
theorem labT_val (rs : List Row) (n : Str) : ∀ i, (∀ j, j < i → labOf rs j ≠ some n) → valV (labT rs i) (Sum.inr n) = none
  | 0, _ => rfl
  | i + 1, h => by
    have ih := labT_val rs n i fun j hj => h j (by omega)
    unfold labT
    cases e : labOf rs i with
    | none => exact ih
    | some s =>
      dsimp only
      rw [valV_put]
      have hn : ¬ (Sum.inr n : Key) = Sum.inr s := fun z => h i (by omega) (by rw [e, Sum.inr.inj z])
      rw [if_neg hn]
      exact ih
theorem labT_succ {rs : List Row} {i : Nat} {r : Row} (h : rs[i]? = some r) : labT rs (i + 1) = match labR r with
    | some s => putK (labT rs i) (Sum.inr s) (.bl true)
    | none => labT rs i := by
  show (match labOf rs i with | some s => putK (labT rs i) (Sum.inr s) (.bl true) | none => labT rs i) = _
  rw [labOf_at h]
structure DrOk (rs : List Row) : Prop where
  fine : ∀ r ∈ rs, RowFine r
  len : rs.length ≤ 900
  uniq : ∀ (i : Nat) (s : Str), labOf rs i = some s → ∀ j, j < i → labOf rs j ≠ some s
  zero : ∀ (k : Nat) (c n : Str) (m : Int), rs[k]? = some (.branch c n m) → m ≠ 0 → ∀ j, labOf rs j ≠ some n
inductive RowsP (K : PySem.W.Frag) (H : Hp) : List V → List Row → Prop
  | nil : RowsP K H [] []
  | cons {v : V} {vs : List V} {r : Row} {rs : List Row} : RowP K H v r → RowsP K H vs rs → RowsP K H (v :: vs) (r :: rs)
theorem rowsP_of {K : PySem.W.Frag} {H H' : Hp} (e : ∀ a xs, SqT K H a xs → SqT K H' a xs) : ∀ {xs : List V} {rs : List Row}, RowsP K H xs rs → RowsP K H' xs rs
  | _, _, .nil => .nil
  | _, _, .cons h t => .cons (rowP_of e h) (rowsP_of e t)
theorem rowsP_V {K : PySem.W.Frag} {H : Hp} : ∀ {xs : List V} {rs : List Row}, RowsP K H xs rs → RowsV K H xs rs
  | _, _, .nil => .nil
  | _, _, .cons h t => .cons (rowP_V h) (rowsP_V t)
theorem rowsP_snoc {K : PySem.W.Frag} {H : Hp} {v : V} {r : Row} (hv : RowP K H v r) : ∀ {xs : List V} {rs : List Row}, RowsP K H xs rs → RowsP K H (xs ++ [v]) (rs ++ [r])
  | _, _, .nil => .cons hv .nil
  | _, _, .cons h t => .cons h (rowsP_snoc hv t)
inductive RowsL (K : PySem.W.Frag) (H : Hp) : List V → List Row → Prop
  | nil : RowsL K H [] []
  | cons {v : V} {vs : List V} {r : Row} {rs : List Row} : RowL K H v r → RowsL K H vs rs → RowsL K H (v :: vs) (r :: rs)
theorem rowsL_same {K : PySem.W.Frag} {H H' : Hp} (e : Same H H') : ∀ {xs : List V} {rs : List Row}, RowsL K H xs rs → RowsL K H' xs rs
  | _, _, .nil => .nil
  | _, _, .cons h t => .cons (rowL_same e h) (rowsL_same e t)
theorem rowsL_get {K : PySem.W.Frag} {H : Hp} : ∀ {xs : List V} {rs : List Row}, RowsL K H xs rs → ∀ {i : Nat} {v : V}, xs[i]? = some v → ∃ r, rs[i]? = some r ∧ RowL K H v r
  | _, _, .nil, i, v, h => by simp at h
  | _, _, .cons g t, 0, v, e => by
    obtain rfl : _ = v := Option.some.inj e
    exact ⟨_, rfl, g⟩
  | _, _, .cons g t, i + 1, v, e => rowsL_get t (i := i) e
theorem rowsL_V {K : PySem.W.Frag} {H : Hp} : ∀ {xs : List V} {rs : List Row}, RowsL K H xs rs → RowsV K H xs rs
  | _, _, .nil => .nil
  | _, _, .cons h t => .cons (rowL_V h) (rowsL_V t)
theorem rowsV_snoc {K : PySem.W.Frag} {H : Hp} {v : V} {r : Row} (hv : RowV K H v r) : ∀ {xs : List V} {rs : List Row}, RowsV K H xs rs → RowsV K H (xs ++ [v]) (rs ++ [r])
  | _, _, .nil => .cons hv .nil
  | _, _, .cons h t => .cons h (rowsV_snoc hv t)
theorem rowV_ref {K : PySem.W.Frag} {H : Hp} {v : V} {r : Row} (h : RowV K H v r) : decide (v = .non) = false := by
  obtain ⟨a, xs, rfl, _⟩ := rowV_tup h
  rfl
def spReadRows (K : PySem.W.Frag) : Sp := fun vs H Q _ => ∃ (L : Addr) (xs : List V) (rs : List Row), vs = [.ref L] ∧ SqL K H L xs ∧ RowsL K H xs rs ∧ DrOk rs ∧ ∀ H' p ys, Same H H' → H p = none → H' p = some (.lst ys) → RowsP K H' ys rs → Q (.ref p) H'
abbrev sReadRows : Stmt := topS 27
theorem scReadRows : FnScope ["rows", "found", "row", "labels", "stood", "index", "thing"] ["rows"] (defScope sReadRows) := ⟨rfl, rfl, rfl, by decide +kernel, rfl, by decide +kernel, by decide +kernel⟩
abbrev rNN : R2 := fun x y H Q => y = .non ∧ Q (.bl (!decide (x = .non))) H
section
variable {P : Program} {w : World} {K : PySem.W.Frag} {mg : Str → Option Value} {base : Heap}
theorem row0_is {H : Hp} {a : Addr} {xs : List V} {k z : Str} {b : Bool} {F : Bool → Hp → Prop} {σ : L2.St} {i : Nat} (hs : σ[i]? = some (some (.ref a))) (h : SqT K H a xs) (h0 : xs[0]? = some (.str k)) (hb : decide (k = z) = b) (q : F b H) : row0Is K i z σ H F := by
  refine ⟨_, hs, a, xs, 0, _, rfl, rfl, h, at_of (i := 0) h0, rfl, b, ?_, q⟩
  rw [strEq, hb]
theorem lab_kind (r : Row) : decide (kindOf r = ("label" : Str)) = (labR r).isSome := by
  cases r with
  | label s => exact (by decide +kernel : decide (("label" : Str) = "label") = true)
  | words n => exact (by decide +kernel : decide (("words" : Str) = "label") = false)
  | even n => exact (by decide +kernel : decide (("even" : Str) = "label") = false)
  | branch c n m => exact (by decide +kernel : decide (("branch" : Str) = "label") = false)
theorem br_kind (r : Row) : decide (kindOf r = ("branch" : Str)) = (match r with | .branch _ _ _ => true | _ => false) := by
  cases r with
  | label s => exact (by decide +kernel : decide (("label" : Str) = "branch") = false)
  | words n => exact (by decide +kernel : decide (("words" : Str) = "branch") = false)
  | even n => exact (by decide +kernel : decide (("even" : Str) = "branch") = false)
  | branch c n m => exact (by decide +kernel : decide (("branch" : Str) = "branch") = true)
theorem ok_readRows {f : Addr} {fd : FuncData} (F : Fun K "read_rows" "read_rows" sReadRows f fd) (T : Bi mg) (G1 : Has P w K mg base CX0 4 "is_row" ["thing"] (spIsRowR K)) (G2 : Has P w K mg base CX0 4 "read_row" ["thing"] (spReadRow K)) : FnOk P w K mg base CX0 5 f fd ["rows"] (spReadRows K) := by
  refine F.ok scReadRows (fun vs H Q E h => ?_) (fun cdv A outer s H vs Q E hr h => ?_)
  · obtain ⟨L, xs, rs, rfl, _⟩ := h
    rfl
  · obtain ⟨L, xs, rs, rfl, hL, hrs, ok, q⟩ := h
    have hu := hu_of hr
    refine ⟨_, (pss_cons (ps_if (pt_not (pt_val (pe_callH G1 hr (by rfl) pass0 (pa_cons (pv 0) pa_nil)))) (pss_one ps_never) pss_nil)
      (pss_cons (ps_setLc (i := 1) (own := [("thing", 6)]) (g := gName 6) (tt := tYes) rfl scReadRows.nd rfl rfl (sw_true rfl rfl rfl (by decide +kernel)) (pi_list (pv 0)) (blkOk_by (N := ["rows", "found", "row", "labels", "stood", "index", "thing"]) (sc := defScope sReadRows) (by decide +kernel)) (fun _ _ _ _ _ => pg_name (i := 6) scReadRows.nd rfl (.inl rfl)) (fun _ _ _ _ _ => pts_nil) (fun _ _ _ _ _ => (pe_callH G2 hr (by rfl) pass0 (pa_cons (pv 6) pa_nil))))
      (pss_cons (ps_setDc (i := 3) (own := [("row", 2)]) (g := gName 2) (tt := tAnd (tTest (tOp rNN (tVar 2) (tC .non))) (row0Is K 2 "label")) (tk := ixT K 2 1) (tv := tC (.bl true)) rfl scReadRows.nd rfl rfl (sw_dict rfl rfl rfl (by decide +kernel)) (pi_list (pv 1)) (blkOk_by (N := ["rows", "found", "row", "labels", "stood", "index", "thing"]) (sc := defScope sReadRows) (by decide +kernel)) (fun _ _ _ _ _ => pg_name (i := 2) scReadRows.nd rfl (.inl rfl))
          (fun _ _ _ _ _ => pts_one (PW.pt (pw_and (pt_cmpR op_notN (pv 2) pe_non (nomark _)) (pw_and1 (pt_cmpR op_eq (pe_ix ix_tup (pv 2) pe_int (fun _ _ => rfl)) pe_str (nomark _)))))) (fun _ _ _ _ _ => pe_ix ix_tup (pv 2) pe_int (fun _ _ => rfl)) (fun _ _ _ _ _ => pe_bl))
      (pss_cons (ps_set (i := 4) scReadRows.nd rfl (.inl rfl) (pe_dnewK))
      (pss_cons (ps_for PassesOwn.never rfl (pi_enum (by rfl) T.enumerate (pa_cons (pv 1) pa_nil)) (pg_tup rfl (pgs_cons (pg_name (i := 5) scReadRows.nd rfl (.inl rfl)) (pgs_cons (pg_name (i := 2) scReadRows.nd rfl (.inl rfl)) pgs_nil)))
          (pss_cons (ps_if (PW.pt (pw_or (pt_cmpR op_isN (pv 2) pe_non (nomark _)) (pw_or1 (PW.pt (pw_and (pt_cmpR op_eq (pe_ix ix_tup (pv 2) pe_int (fun _ _ => rfl)) pe_str (nomark _)) (pw_and1 (pt_cmp (pc_din hu (pe_ix ix_tup (pv 2) pe_int (fun _ _ => rfl)) (pv 4))))))))) (pss_one ps_never) pss_nil)
          (pss_cons (ps_if (pt_cmpR op_eq (pe_ix ix_tup (pv 2) pe_int (fun _ _ => rfl)) pe_str (nomark _)) (pss_one (ps_dput hu (pv 4) (pe_ix ix_tup (pv 2) pe_int (fun _ _ => rfl)) pe_bl rfl)) pss_nil)
          (pss_one (ps_if (PW.pt (pw_and (pt_cmpR op_eq (pe_ix ix_tup (pv 2) pe_int (fun _ _ => rfl)) pe_str (nomark _)) (pw_and (pt_cmpR op_ne (pe_ix ix_tup (pv 2) pe_int (fun _ _ => rfl)) pe_int (nomark _)) (pw_and1 (pt_cmp (pc_din hu (pe_ix ix_tup (pv 2) pe_int (fun _ _ => rfl)) (pv 3))))))) (pss_one ps_never) pss_nil)))))
      (pss_one (ps_ret (pv 1)))))))), ?_⟩
    refine ⟨_, rfl, L, xs, rfl, .inl hL, fun H1 s1 => ⟨_, rfl, iteF ?_⟩⟩
    have hL1 := sqL_same s1 hL
    have hrs1 := rowsL_same s1 hrs
    have lx := rowsV_len (rowsL_V hrs)
    have ol := ok.len
    refine ⟨_, rfl, L, rfl, ⟨_, hL1⟩, fun D hD => ?_⟩
    refine lc_it walk_list (fun i H4 => (∀ c o, c ≠ D → H1 c = some o → H4 c = some o) ∧ ∃ ys, H4 D = some (.lst ys) ∧ RowsP K H4 ys (rs.take i)) ⟨fun c o hc e => by rw [upd_ne hc]; exact e, [], upd_same, .nil⟩
      (fun i H4 _ ⟨kp, _⟩ => sqL_same (fun c o e => kp c o (ne_of_none e hD) e) hL1) ?_ ?_
    · rintro i x H4 H4' hi ⟨kp, ys, hD4, hys⟩ ⟨rfl, hx⟩
      obtain ⟨r, hri, hrv⟩ := rowsL_get hrs1 hx
      have hri2 : i < rs.length := (List.getElem?_eq_some_iff.mp hri).1
      have hrv4 : RowL K H4' x r := rowL_same (fun c o e => kp c o (ne_of_none e hD) e) hrv
      refine ⟨rfl, yes_go (iteT ⟨_, rfl, x, r, rfl, hrv4, ok.fine r (List.mem_of_getElem? hri), fun H5 v5 s5 hv5 => ?_⟩)⟩
      have hD5 := s5 _ _ hD4
      have yl : ys.length = i := by
        rw [rowsV_len (rowsP_V hys), List.length_take]
        omega
      refine ⟨ys, hD5, small1000 (by omega), fun c o hc ec => ?_, ys ++ [v5], upd_same, ?_⟩
      · rw [upd_ne hc]
        exact s5 _ _ (kp c o hc ec)
      · rw [List.take_add_one, hri]
        have put : ∀ (o : HO) a xs, SqT K H5 a xs → SqT K (upd H5 D o) a xs := fun o a xs h => sqT_put h hD5 trivial
        exact rowsP_snoc (rowP_of (put _) hv5) (rowsP_of (fun a xs h => put _ _ _ (sqT_same s5 h)) hys)
    · rintro H4 ⟨kp, ys, hD4, hys⟩
      rw [lx, List.take_length] at hys
      have yl := rowsV_len (rowsP_V hys)
      have hysV := rowsP_V hys
      have s4 : Same H H4 := fun c o e => kp c o (ne_of_none (s1 _ _ e) hD) (s1 _ _ e)
      have hDn : H D = none := by
        cases e : H D with
        | none => rfl
        | some o => rw [s1 _ _ e] at hD; cases hD
      -- the labels
      refine ⟨_, rfl, D, rfl, ⟨_, SqL.of hD4⟩, fun E1 hE1 => ?_⟩
      have hED : E1 ≠ D := fun z => by rw [z, hD4] at hE1; cases hE1
      refine dc_it walk_list (fun i H5 => (∀ c o, c ≠ E1 → H4 c = some o → H5 c = some o) ∧ H5 E1 = some (.dK (labT rs i))) ⟨fun c o hc e => by rw [upd_ne hc]; exact e, upd_same⟩ (fun i H5 _ ⟨kp5, _⟩ => SqL.of (kp5 _ _ hED.symm hD4)) ?_ ?_
      · rintro i x H5 H5' hi ⟨kp5, hE5⟩ ⟨rfl, hx⟩
        obtain ⟨r, hri, hrv⟩ := rowsV_get hysV hx
        have s45 : Same H4 H5' := fun c o e => kp5 c o (ne_of_none e hE1) e
        have hrv5 : RowV K H5' x r := rowV_same s45 hrv
        have hri2 : i < rs.length := (List.getElem?_eq_some_iff.mp hri).1
        refine ⟨rfl, _, rfl, rfl, _, rfl, ?_⟩
        rw [rowV_ref hrv5]
        obtain ⟨a, zs, rfl, ht, h0⟩ := rowV_tup hrv5
        refine iteT (row0_is rfl ht h0 (lab_kind r) ?_)
        have es := labT_succ hri
        cases el : labR r with
        | none =>
          rw [el] at es
          refine iteF ⟨kp5, ?_⟩
          rw [es]
          exact hE5
        | some z =>
          rw [el] at es
          obtain rfl : r = .label z := by
            cases r with
            | label z' => cases el; rfl
            | _ => cases el
          obtain ⟨a', ea, h2⟩ := hrv5
          refine iteT ⟨_, rfl, a', _, _, _, ea, rfl, h2, at_of (i := 1) rfl, labT rs i, Sum.inr z, rfl, hE5, ?_, fun c o hc e => ?_, ?_⟩
          · have := labT_len rs i
            exact small1000 (by omega)
          · rw [upd_ne hc]
            exact kp5 c o hc e
          · rw [upd_same, es]
      · rintro H5 ⟨kp5, hE5⟩
        rw [yl] at hE5
        have s45 : Same H4 H5 := fun c o e => kp5 c o (ne_of_none e hE1) e
        -- the loop
        refine fun S hS => ?_
        have s56 : Same H5 (upd H5 S (.dK [])) := same_new hS
        have hDS : D ≠ S := ne_of_none (s45 _ _ hD4) hS
        have hES : E1 ≠ S := ne_of_none hE5 hS
        refine ⟨_, rfl, D, ys, rfl, SqL.of (s56 _ _ (s45 _ _ hD4)), ?_⟩
        refine for_it walk_enum (fun i σ H6 => ∃ (a b : Option V), σ = [some (.ref L), some (.ref D), a, some (.ref E1), some (.ref S), b, none] ∧ Same H5 H6 ∧ H6 S = some (.dK (labT rs i))) ⟨none, none, rfl, s56, upd_same⟩ (fun i σ H6 _ ⟨_, _, _, s6, _⟩ => SqL.of (s6 _ _ (s45 _ _ hD4))) ?_ ?_
        · rintro i x σ H6 H6' hi ⟨a, b, rfl, s6, hS6⟩ ⟨TT, x', y, rfl, hT, rfl, hx', hy⟩
          cases hx'
          obtain ⟨r, hri, hrv⟩ := rowsV_get hysV hy
          have s67 : Same H6 (upd H6 TT (.tup [.int (i : Nat), y])) := same_new hT
          generalize hH7 : upd H6 TT (.tup [.int (i : Nat), y]) = H7 at s67
          have hTv : H7 TT = some (.tup [.int (i : Nat), y]) := by rw [← hH7]; exact upd_same
          have hrv7 : RowV K H7 y r := rowV_same ((s45.trans s6).trans s67) hrv
          have hri2 : i < rs.length := (List.getElem?_eq_some_iff.mp hri).1
          have hS7 := s67 _ _ hS6
          have hE7 := s67 _ _ (s6 _ _ hE5)
          have es := labT_succ hri
          have lab := labOf_at hri
          refine ⟨TT, _, rfl, SqT.of hTv, rfl, _, _, rfl, _, _, rfl, rfl, ?_⟩
          refine ⟨_, rfl, rfl, _, rfl, ?_⟩
          rw [rowV_ref hrv7]
          obtain ⟨ta, zs, rfl, ht, h0⟩ := rowV_tup hrv7
          have fin : ∀ {H8 : Hp}, Same H5 H8 → H8 S = some (.dK (labT rs (i + 1))) → ∃ (a b : Option V), ([some (.ref L), some (.ref D), some (.ref ta), some (.ref E1), some (.ref S), some (.int (i : Nat)), none] : L2.St) = [some (.ref L), some (.ref D), a, some (.ref E1), some (.ref S), b, none] ∧ Same H5 H8 ∧ H8 S = some (.dK (labT rs (i + 1))) := fun h1 h2 => ⟨_, _, rfl, h1, h2⟩
          have s57 := s6.trans s67
          refine iteF (row0_is rfl ht h0 (lab_kind r) ?_)
          cases el : labR r with
          | some z =>
            rw [el] at es lab
            obtain rfl : r = .label z := by
              cases r with
              | label z' => cases el; rfl
              | _ => cases el
            obtain ⟨a', ea, h2⟩ := hrv7
            cases ea
            have none1 : valV (labT rs i) (Sum.inr z) = none := labT_val rs z i fun j hj => ok.uniq i z lab j hj
            refine iteT ⟨_, rfl, ta, _, _, _, rfl, rfl, h2, at_of (i := 1) rfl, _, rfl, S, _, rfl, DGet.k (k := Sum.inr z) hS7, _, rfl, ?_⟩
            rw [none1]
            refine iteF ?_
            refine ⟨_, rfl, ta, _, _, _, rfl, rfl, h2, at_of (i := 0) rfl, rfl, _, rfl, kEq (by decide +kernel) ?_⟩
            refine ⟨_, rfl, _, rfl, ta, _, _, _, rfl, rfl, h2, at_of (i := 1) rfl, S, _, rfl, DPut.k (k := Sum.inr z) hS7 ?_, ?_⟩
            · have := labT_len rs i
              exact small1000 (by omega)
            · have h3 : SqT K (upd H7 S (.dK (putK (labT rs i) (Sum.inr z) (.bl true)))) ta [.str "label", .str z] := sqT_put h2 hS7 trivial
              refine ⟨_, rfl, ta, _, _, _, rfl, rfl, h3, at_of (i := 0) rfl, rfl, _, rfl, kNe (by decide +kernel) ?_⟩
              refine iteF (fin ?_ ?_)
              · intro c o hc
                have cS : c ≠ S := ne_of_none hc hS
                rw [upd_ne cS]
                exact s57 _ _ hc
              · rw [upd_same, es]
          | none =>
            rw [el] at es
            refine iteF ?_
            refine iteF ?_
            refine ⟨_, rfl, ta, zs, _, _, rfl, rfl, ht, at_of (i := 0) h0, rfl, _, rfl, ?_⟩
            rw [strEq, lab_kind, el]
            refine iteF ?_
            refine ⟨_, rfl, ta, zs, _, _, rfl, rfl, ht, at_of (i := 0) h0, rfl, _, rfl, ?_⟩
            rw [strEq, br_kind]
            have hS8 : H7 S = some (.dK (labT rs (i + 1))) := by rw [es]; exact hS7
            cases r with
            | branch c n m =>
              obtain ⟨a', ea, h2⟩ := hrv7
              cases ea
              refine iteT ⟨_, rfl, ta, _, _, _, rfl, rfl, h2, at_of (i := 3) rfl, rfl, _, rfl, ?_⟩
              rw [intEq]
              by_cases hm : m = 0
              · rw [decide_eq_true hm]
                exact iteF (iteF (fin s57 hS8))
              · rw [decide_eq_false hm]
                have none2 : valV (labT rs rs.length) (Sum.inr n) = none := labT_val rs n _ fun j _ => ok.zero i c n m hri hm j
                refine iteT ⟨_, rfl, ta, _, _, _, rfl, rfl, h2, at_of (i := 2) rfl, _, rfl, E1, _, rfl, DGet.k (k := Sum.inr n) hE7, _, rfl, ?_⟩
                rw [none2]
                exact iteF (fin s57 hS8)
            | words n => exact iteF (iteF (fin s57 hS8))
            | even n => exact iteF (iteF (fin s57 hS8))
            | label z => cases el
        · rintro σ H6 ⟨a, b, rfl, s6, hS6⟩
          refine ⟨_, rfl, q H6 D ys ((s4.trans s45).trans s6) hDn (s6 _ _ (s45 _ _ hD4)) (rowsP_of (fun a xs h => sqT_same (s45.trans s6) h) hys)⟩
end

/-! ### drafts -/
def drF (p q d o : Addr) : List (Str × V) := [("parts", .ref p), ("forks", .ref q), ("aims", .ref d), ("outs", .ref o)]
structure DrAt (K : PySem.W.Frag) (H : Hp) (C x : Addr) (rs : List Row) (dx p q d o : Addr) (xs : List V) : Prop where
  ins : H x = some (.ins C dx (drF p q d o))
  parts : SqT K H p xs
  rows : RowsP K H xs rs
  forks : SqT K H q (nats (brs rs))
  aims : H d = some (.dK (aimD rs))
  outs : SqT K H o (nats (outs rs))
theorem DrAt.same {K : PySem.W.Frag} {H H' : Hp} {C x : Addr} {rs : List Row} {dx p q d o : Addr} {xs : List V} (e : Same H H') (h : DrAt K H C x rs dx p q d o xs) : DrAt K H' C x rs dx p q d o xs :=
  ⟨e _ _ h.ins, sqT_same e h.parts, rowsP_of (fun a xs h => sqT_same e h) h.rows, sqT_same e h.forks, e _ _ h.aims, sqT_same e h.outs⟩
/-- a draft of these rows at x -/
def DraftV (K : PySem.W.Frag) (H : Hp) (C x : Addr) (rs : List Row) : Prop := DrOk rs ∧ ∃ dx p q d o xs, DrAt K H C x rs dx p q d o xs
theorem draftV_same {K : PySem.W.Frag} {H H' : Hp} {C x : Addr} {rs : List Row} (e : Same H H') (h : DraftV K H C x rs) : DraftV K H' C x rs := by
  obtain ⟨ok, dx, p, q, d, o, xs, h⟩ := h
  exact ⟨ok, dx, p, q, d, o, xs, h.same e⟩
/-- what is known of the class -/
structure DrC (K : PySem.W.Frag) (C : Addr) : Prop where
  cl : Cls K C
  n1 : NoAttr K C "parts"
  n2 : NoAttr K C "forks"
  n3 : NoAttr K C "aims"
  n4 : NoAttr K C "outs"
theorem toOf_at {rs : List Row} {i : Nat} {r : Row} (h : rs[i]? = some r) : toOf rs i = match r with
    | .branch _ n _ => some n
    | _ => none := by
  have e : toOf rs i = (match some r with | some (.branch _ n _) => some n | _ => none) := by
    rw [← h]
    rfl
  rw [e]
  cases r <;> rfl
theorem isBr_at {rs : List Row} {i : Nat} {r : Row} (h : rs[i]? = some r) : isBr rs i = match r with
    | .branch _ _ _ => true
    | _ => false := by
  have e : isBr rs i = (match some r with | some (.branch _ _ _) => true | _ => false) := by
    rw [← h]
    rfl
  rw [e]
  cases r <;> rfl
theorem brsTo_succ (rs : List Row) (i : Nat) : brsTo rs (i + 1) = brsTo rs i ++ (if isBr rs i = true then [i] else []) := by
  unfold brsTo
  rw [List.range_succ, List.filter_append]
  congr 1
  cases e : isBr rs i <;> simp [List.filter, e]
theorem brsTo_len (rs : List Row) (i : Nat) : (brsTo rs i).length ≤ i := by
  unfold brsTo
  refine Nat.le_trans (List.length_filter_le _ _) ?_
  rw [List.length_range]
  exact Nat.le_refl _
theorem brs_nodup (rs : List Row) : (brs rs).Nodup := List.Nodup.sublist (List.filter_sublist ..) List.nodup_range
theorem brs_mem {rs : List Row} {k : Nat} (h : k ∈ brs rs) : ∃ c n m, rs[k]? = some (.branch c n m) := by
  unfold brs brsTo at h
  have h2 := (List.mem_filter.mp h).2
  unfold isBr at h2
  split at h2
  · rename_i c n m e
    exact ⟨c, n, m, e⟩
  · cases h2
theorem take_not {α : Type} {l : List α} {i : Nat} {a : α} (nd : l.Nodup) (h : l[i]? = some a) : a ∉ l.take i := by
  intro hm
  obtain ⟨j, hj, ej⟩ := List.mem_iff_getElem.mp hm
  have hj2 : j < i := by
    rw [List.length_take] at hj
    omega
  have hi : i < l.length := (List.getElem?_eq_some_iff.mp h).1
  have e1 : l[i] = a := (List.getElem?_eq_some_iff.mp h).2
  have e2 : l[j] = a := by rw [← ej, List.getElem_take]
  exact List.pairwise_iff_getElem.mp nd j i (by omega) hi hj2 (e2.trans e1.symm)
theorem mem_inn {rs : List Row} {k : Nat} : k ∈ inn rs ↔ k < rs.length ∧ (aim rs k).isSome = true := by
  unfold inn innTo
  rw [List.mem_filter, List.mem_range]
theorem ne_of_none' {H : Hp} {x p : Addr} {o : HO} (h : H x = some o) (hp : H p = none) : p ≠ x := fun z => by
  rw [z, h] at hp
  cases hp
def spInit (K : PySem.W.Frag) (C : Addr) : Sp := fun vs H Q _ => ∃ (x L dx : Addr) (xs : List V) (rs : List Row), vs = [.ref x, .ref L] ∧ H x = some (.ins C dx []) ∧ SqL K H L xs ∧ RowsL K H xs rs ∧ DrOk rs ∧
  ∀ H', (∀ b o, b ≠ x → H b = some o → H' b = some o) → DraftV K H' C x rs → Q .non H'
abbrev sInit : Stmt := inClass (topS 37) 0
theorem scInit : FnScope ["self", "rows", "labels", "index", "row"] ["self", "rows"] (defScope sInit) := ⟨rfl, rfl, rfl, by decide +kernel, rfl, by decide +kernel, by decide +kernel⟩
abbrev tPart2 (K : PySem.W.Frag) : TE := tOp (rIxT K) (tOp (rIxT K) (tFld K (tVar 0) "parts") (tVar 3)) (tC (.int 2))
section
variable {P : Program} {w : World} {K : PySem.W.Frag} {mg : Str → Option Value} {base : Heap}
theorem ok_init {f C : Addr} {fd : FuncData} (F : Fun K "__init__" "Draft.__init__" sInit f fd) (T : Bi mg) (B : DrC K C) (G1 : Has P w K mg base CX0 5 "read_rows" ["rows"] (spReadRows K)) (G2 : Has P w K mg base CX0 5 "labels_in" ["rows"] (spLabelsIn K)) :
    FnOk P w K mg base CX0 6 f fd ["self", "rows"] (spInit K C) := by
  refine F.ok scInit (fun vs H Q E h => ?_) (fun cdv A outer s H vs Q E hr h => ?_)
  · obtain ⟨x, L, dx, xs, rs, rfl, _⟩ := h
    rfl
  · obtain ⟨x, L, dx, xs, rs, rfl, hx, hL, hrs, ok, qq⟩ := h
    have hu := hu_of hr
    refine ⟨_, (pss_cons (ps_fld (pv 0) (pe_callTy call_tuple_of (by rfl) T.tuple (by decide +kernel) (pa_cons (pe_callH G1 hr (by rfl) pass0 (pa_cons (pv 1) pa_nil)) pa_nil)) rfl)
      (pss_cons (ps_set (i := 2) scInit.nd rfl (.inr rfl) (pe_callH G2 hr (by rfl) pass0 (pa_cons (pe_fld (pv 0) rfl) pa_nil)))
      (pss_cons (ps_fld (pv 0) (pe_callTy call_tuple_of (by rfl) T.tuple (by decide +kernel) (pa_cons (pe_lc (own := [("index", 3), ("row", 4)]) (g := g2 K 3 4) (tt := row0Is K 4 "branch") rfl scInit.nd (pi_enumT (by rfl) T.enumerate (pa_cons (pe_fld (pv 0) rfl) pa_nil)) (blkOk_by (N := ["self", "rows", "labels", "index", "row"]) (sc := defScope sInit) (by decide +kernel))
          (fun _ _ _ _ _ => (pg_tup rfl (pgs_cons (pg_name (i := 3) scInit.nd rfl (.inl rfl) (.inr rfl)) (pgs_cons (pg_name (i := 4) scInit.nd rfl (.inl rfl) (.inr rfl)) pgs_nil)))) (fun _ _ _ _ _ => pts_one (pt_cmpR op_eq (pe_ix ix_tup (pv 4) pe_int (fun _ _ => rfl)) pe_str (nomark _))) (fun _ _ _ _ _ => pv 3)) pa_nil)) rfl)
      (pss_cons (ps_fld (pv 0) (pe_dc (own := [("index", 3)]) (g := gName 3) (tt := tB (tDIn (tPart2 K) (tVar 2))) (tk := tVar 3) (tv := tDGet (tVar 2) (tPart2 K)) rfl scInit.nd (pi_tup (pe_fld (pv 0) rfl)) (blkOk_by (N := ["self", "rows", "labels", "index", "row"]) (sc := defScope sInit) (by decide +kernel)) (fun _ _ _ _ _ => pg_name (i := 3) scInit.nd rfl (.inl rfl))
          (fun _ _ _ _ _ => pts_one (pt_cmp (pc_din hu (pe_ix ix_tup (pe_ix ix_tup (pe_fld (pv 0) rfl) (pv 3) (fun _ _ => rfl)) pe_int (fun _ _ => rfl)) (pv 2)))) (fun _ _ _ _ _ => pv 3) (fun _ _ _ _ _ => pe_dget hu (pv 2) (pe_ix ix_tup (pe_ix ix_tup (pe_fld (pv 0) rfl) (pv 3) (fun _ _ => rfl)) pe_int (fun _ _ => rfl)) (fun _ _ => rfl))) rfl)
      (pss_one (ps_fld (pv 0) (pe_callTy call_tuple_of (by rfl) T.tuple (by decide +kernel) (pa_cons (pe_lc (own := [("index", 3)]) (g := gName 3) (tt := tB (tDNotIn (tVar 3) (tFld K (tVar 0) "aims"))) rfl scInit.nd (pi_tup (pe_fld (pv 0) rfl)) (blkOk_by (N := ["self", "rows", "labels", "index", "row"]) (sc := defScope sInit) (by decide +kernel)) (fun _ _ _ _ _ => pg_name (i := 3) scInit.nd rfl (.inl rfl))
          (fun _ _ _ _ _ => pts_one (pt_cmp (pc_dnotin hu (pv 3) (pe_fld (pv 0) rfl)))) (fun _ _ _ _ _ => pv 3)) pa_nil)) rfl)))))), ?_⟩
    refine ⟨_, rfl, L, xs, rs, rfl, hL, hrs, ok, fun H1 D ys s1 hD0 hD hys => ⟨D, ys, rfl, .inl ⟨SqL.of hD, fun p hp => ?_⟩⟩⟩
    have lx := rowsV_len (rowsP_V hys)
    have ol := ok.len
    have pnx : p ≠ x := ne_of_none' (s1 _ _ hx) hp
    have s12 := s1.trans (same_new (o := .tup ys) hp)
    refine ⟨_, rfl, x, C, dx, [], rfl, s12 _ _ hx, B.cl, B.n1, (by decide), ?_⟩
    -- what stands but for x
    generalize hH3 : upd (upd H1 p (.tup ys)) x (.ins C dx (putF "parts" (.ref p) [])) = H3
    have k3 : ∀ b o, b ≠ x → H b = some o → H3 b = some o := fun b o hb e => by
      rw [← hH3, upd_ne hb]
      exact s12 _ _ e
    have x3 : H3 x = some (.ins C dx [("parts", .ref p)]) := by rw [← hH3, upd_same]; rfl
    have p3 : SqT K H3 p ys := SqT.of (by rw [← hH3, upd_ne pnx]; exact upd_same)
    have r3 : RowsP K H3 ys rs := by
      rw [← hH3]
      exact rowsP_of (fun a zs h => sqT_put (sqT_same (same_new hp) h) (s12 _ _ hx) trivial) hys
    refine ⟨_, rfl, x, C, dx, _, _, rfl, x3, B.cl, B.n1, rfl, p, ys, rs, rfl, p3, rowsP_V r3, ol, fun H4 l s4 hl0 hl => ?_⟩
    have x4 := s4 _ _ x3
    have p4 := sqT_same s4 p3
    have r4 : RowsP K H4 ys rs := rowsP_of (fun a zs h => sqT_same s4 h) r3
    refine ⟨_, rfl, x, C, dx, _, _, rfl, x4, B.cl, B.n1, rfl, p, ys, rfl, p4, fun D2 hD2 => ?_⟩
    refine lc_it walk_enumT (fun i H5 => (∀ c o, c ≠ D2 → H4 c = some o → H5 c = some o) ∧ H5 D2 = some (.lst (nats (brsTo rs i)))) ⟨fun c o hc e => by rw [upd_ne hc]; exact e, upd_same⟩ (fun i H5 _ ⟨kp, _⟩ => sqT_same (fun c o e => kp c o (ne_of_none e hD2) e) p4) ?_ ?_
    · rintro i z H5 H5' hi ⟨kp, hD5⟩ ⟨TT, x', y, rfl, hT, rfl, hx', hy⟩
      cases hx'
      have s45 : Same H4 H5 := fun c o e => kp c o (ne_of_none e hD2) e
      have s5 : Same H5 (upd H5 TT (.tup [.int (i : Nat), y])) := same_new hT
      obtain ⟨r, hri, hrv⟩ := rowsV_get (rowsP_V r4) hy
      have hrv5 := rowV_same (s45.trans s5) hrv
      obtain ⟨ta, zs, rfl, ht, h0⟩ := rowV_tup hrv5
      have hD5' := s5 _ _ hD5
      have hi2 : i < rs.length := (List.getElem?_eq_some_iff.mp hri).1
      refine ⟨TT, _, rfl, SqT.of upd_same, rfl, _, _, rfl, _, _, rfl, rfl, rfl, row0_is rfl ht h0 (br_kind r) ?_⟩
      have eb := isBr_at hri
      have kp5 : ∀ (o' : HO) c o, c ≠ D2 → H4 c = some o → upd (upd H5 TT (.tup [.int (i : Nat), .ref ta])) D2 o' c = some o := fun o' c o hc e => by
        rw [upd_ne hc]
        exact s5 _ _ (kp c o hc e)
      have stay : isBr rs i = false → (∀ c o, c ≠ D2 → H4 c = some o → (upd H5 TT (.tup [.int (i : Nat), .ref ta])) c = some o) ∧ (upd H5 TT (.tup [.int (i : Nat), .ref ta])) D2 = some (.lst (nats (brsTo rs (i + 1)))) := by
        intro e
        refine ⟨fun c o hc e => s5 _ _ (kp c o hc e), ?_⟩
        rw [brsTo_succ, e]
        simpa using hD5'
      cases r with
      | branch c n m =>
        refine iteT ⟨_, rfl, _, hD5', ?_, kp5 _, ?_⟩
        · rw [nats_len]
          have := brsTo_len rs i
          exact small1000 (by omega)
        · rw [upd_same, brsTo_succ, eb, nats_app]
          rfl
      | words n => exact iteF (stay eb)
      | label n => exact iteF (stay eb)
      | even n => exact iteF (stay eb)
    · rintro H5 ⟨kp, hD5⟩
      rw [lx] at hD5
      have s45 : Same H4 H5 := fun c o e => kp c o (ne_of_none e hD2) e
      refine ⟨D2, _, rfl, .inl ⟨SqL.of hD5, fun q hq => ?_⟩⟩
      have s46 := s45.trans (same_new (o := .tup (nats (brsTo rs rs.length))) hq)
      have x6 := s46 _ _ x4
      have qnx : q ≠ x := ne_of_none' (s45 _ _ x4) hq
      refine ⟨_, rfl, x, C, dx, _, rfl, x6, B.cl, B.n2, (by show 1 < 1000; decide), ?_⟩
      generalize hH7 : upd (upd H5 q (.tup (nats (brsTo rs rs.length)))) x (.ins C dx (putF "forks" (.ref q) [("parts", .ref p)])) = H7
      have k7 : ∀ b o, b ≠ x → H b = some o → H7 b = some o := fun b o hb e => by
        rw [← hH7, upd_ne hb]
        exact s46 _ _ (s4 _ _ (k3 b o hb e))
      have x7 : H7 x = some (.ins C dx [("parts", .ref p), ("forks", .ref q)]) := by rw [← hH7, upd_same]; rfl
      have t7 : ∀ a zs, SqT K H4 a zs → SqT K H7 a zs := fun a zs h => by
        rw [← hH7]
        exact sqT_put (sqT_same s46 h) x6 trivial
      have q7 : SqT K H7 q (nats (brs rs)) := SqT.of (by rw [← hH7, upd_ne qnx]; exact upd_same)
      have l7 : H7 l = some (.dK (spD rs rs.length)) := by
        rw [← hH7, upd_ne (ne_of (s4 _ _ (by exact x3)) hl (by intro z; cases z)).symm]
        exact s46 _ _ hl
      refine ⟨_, rfl, x, C, dx, _, _, rfl, x7, B.cl, B.n2, rfl, q, rfl, ⟨_, q7⟩, fun D3 hD3 => ?_⟩
      refine dc_it walk_tup (fun i H8 => (∀ c o, c ≠ D3 → H7 c = some o → H8 c = some o) ∧ H8 D3 = some (.dK (mapD (fun k => .int (((aim rs k).getD 0 : Nat) : Int)) (((brs rs).take i).filter fun k => (aim rs k).isSome)))) ⟨fun c o hc e => by rw [upd_ne hc]; exact e, upd_same⟩
        (fun i H8 _ ⟨kp, _⟩ => sqT_same (fun c o e => kp c o (ne_of_none e hD3) e) q7) ?_ ?_
      · rintro i z H8 H8' hi ⟨kp8, hD8⟩ ⟨rfl, hz⟩
        have s78 : Same H7 H8' := fun c o e => kp8 c o (ne_of_none e hD3) e
        obtain ⟨k, hk, rfl⟩ : ∃ k, (brs rs)[i]? = some k ∧ z = V.int ((k : Nat) : Int) := by
          unfold nats at hz
          rw [List.getElem?_map] at hz
          cases e : (brs rs)[i]? with
          | none => rw [e] at hz; cases hz
          | some k => rw [e] at hz; exact ⟨k, rfl, (Option.some.inj hz).symm⟩
        have hkm := List.mem_of_getElem? hk
        obtain ⟨c, n, m, hrk⟩ := brs_mem hkm
        obtain ⟨yk, hyk⟩ : ∃ yk, ys[k]? = some yk := ⟨ys[k]'(by rw [lx]; exact (List.getElem?_eq_some_iff.mp hrk).1), List.getElem?_eq_getElem _⟩
        obtain ⟨r', hr', hrv⟩ := rowsV_get (rowsP_V (rowsP_of t7 r4)) hyk
        obtain rfl : r' = .branch c n m := Option.some.inj (hr'.symm.trans hrk)
        obtain ⟨ta, rfl, ht⟩ := rowV_same s78 hrv
        have x8 := s78 _ _ x7
        have p8 := sqT_same s78 (t7 _ _ p4)
        have l8 := s78 _ _ l7
        have q8 : ∀ {W : V → Hp → Prop}, W (.str n) H8' → tPart2 K ((wipe [some (.ref x), some (.ref L), some (.ref l), none, none] [3]).set 3 (some (.int (k : Int)))) H8' W := fun {W} h => ⟨_, rfl, x, C, dx, _, _, rfl, x8, B.cl, B.n1, rfl, _, rfl, p, ys, _, _, rfl, rfl, p8, at_of hyk, ta, _, _, _, rfl, rfl, ht, at_of (i := 2) rfl, h⟩
        have ea : aim rs k = spot rs n := by
          unfold aim
          rw [toOf_at hrk]
          rfl
        have tk : (brs rs).take (i + 1) = (brs rs).take i ++ [k] := by
          rw [List.take_add_one, hk]
          rfl
        have sv := spot_spV rs n
        rw [← ea] at sv
        refine ⟨rfl, q8 ⟨_, rfl, l, _, rfl, DGet.k (k := Sum.inr n) l8, _, rfl, ?_⟩⟩
        show if (spV rs n).isSome = true then _ else _
        rw [sv]
        cases e : aim rs k with
        | none =>
          refine iteF ⟨kp8, ?_⟩
          rw [tk, List.filter_append]
          have z : [k].filter (fun k => (aim rs k).isSome) = [] := by simp [List.filter, e]
          rw [z, List.append_nil]
          exact hD8
        | some j =>
          rw [e] at sv
          refine iteT ⟨_, rfl, _, rfl, q8 ⟨l, _, rfl, (by
            have g := DGet.k (k := Sum.inr n) l8
            rw [show valV (spD rs rs.length) (Sum.inr n) = some (.int (j : Nat)) from sv] at g
            exact g), _, Sum.inl (k : Int), rfl, hD8, ?_, fun c o hc ec => ?_, ?_⟩⟩
          · rw [mapD_len]
            have h1 : (((brs rs).take i).filter fun k => (aim rs k).isSome).length ≤ ((brs rs).take i).length := List.length_filter_le _ _
            have h2 : ((brs rs).take i).length ≤ (brs rs).length := by rw [List.length_take]; omega
            have h3 := brsTo_len rs rs.length
            have h4 : (brs rs).length = (brsTo rs rs.length).length := rfl
            exact small1000 (by omega)
          · rw [upd_ne hc]
            exact kp8 c o hc ec
          · rw [upd_same, tk, List.filter_append]
            have z : [k].filter (fun k => (aim rs k).isSome) = [k] := by simp [List.filter, e]
            have nw : valV (mapD (fun k => .int (((aim rs k).getD 0 : Nat) : Int)) (((brs rs).take i).filter fun k => (aim rs k).isSome)) (Sum.inl (k : Int)) = none := by
              rw [mapD_val, if_neg]
              intro hm
              exact take_not (brs_nodup rs) hk (List.mem_filter.mp hm).1
            rw [z, putK_new _ nw]
            unfold mapD
            rw [List.map_append, List.map_singleton]
            have z2 : (fun (k : Nat) => V.int (((aim rs k).getD 0 : Nat) : Int)) k = V.int (j : Int) := by
              show V.int (((aim rs k).getD 0 : Nat) : Int) = _
              rw [e]
              rfl
            rw [z2]
      · rintro H8 ⟨kp8, hD8⟩
        rw [nats_len, List.take_length, brs_inn] at hD8
        have hD8 : H8 D3 = some (.dK (aimD rs)) := hD8
        have s78 : Same H7 H8 := fun c o e => kp8 c o (ne_of_none e hD3) e
        have x8 := s78 _ _ x7
        have D3x : D3 ≠ x := (ne_of_none' x7 hD3)
        refine ⟨_, rfl, x, C, dx, _, rfl, x8, B.cl, B.n3, (by show 2 < 1000; decide), ?_⟩
        generalize hH9 : upd H8 x (.ins C dx (putF "aims" (.ref D3) [("parts", .ref p), ("forks", .ref q)])) = H9
        have k9 : ∀ b o, b ≠ x → H7 b = some o → H9 b = some o := fun b o hb e => by
          rw [← hH9, upd_ne hb]
          exact s78 _ _ e
        have x9 : H9 x = some (.ins C dx [("parts", .ref p), ("forks", .ref q), ("aims", .ref D3)]) := by rw [← hH9, upd_same]; rfl
        have d9 : H9 D3 = some (.dK (aimD rs)) := by rw [← hH9, upd_ne D3x]; exact hD8
        have t9 : ∀ a zs, SqT K H7 a zs → SqT K H9 a zs := fun a zs h => by
          rw [← hH9]
          exact sqT_put (sqT_same s78 h) x8 trivial
        refine ⟨_, rfl, x, C, dx, _, _, rfl, x9, B.cl, B.n2, rfl, q, rfl, ⟨_, t9 _ _ q7⟩, fun D4 hD4 => ?_⟩
        refine lc_it walk_tup (fun i Ha => (∀ c o, c ≠ D4 → H9 c = some o → Ha c = some o) ∧ Ha D4 = some (.lst (nats (((brs rs).take i).filter fun k => (aim rs k).isNone)))) ⟨fun c o hc e => by rw [upd_ne hc]; exact e, upd_same⟩
          (fun i Ha _ ⟨kp, _⟩ => sqT_same (fun c o e => kp c o (ne_of_none e hD4) e) (t9 _ _ q7)) ?_ ?_
        · rintro i z Ha Ha' hi ⟨kpa, hDa⟩ ⟨rfl, hz⟩
          have s9a : Same H9 Ha' := fun c o e => kpa c o (ne_of_none e hD4) e
          obtain ⟨k, hk, rfl⟩ : ∃ k, (brs rs)[i]? = some k ∧ z = V.int ((k : Nat) : Int) := by
            unfold nats at hz
            rw [List.getElem?_map] at hz
            cases e : (brs rs)[i]? with
            | none => rw [e] at hz; cases hz
            | some k => rw [e] at hz; exact ⟨k, rfl, (Option.some.inj hz).symm⟩
          have tk : (brs rs).take (i + 1) = (brs rs).take i ++ [k] := by
            rw [List.take_add_one, hk]
            rfl
          obtain ⟨c, n, m, hrk⟩ := brs_mem (List.mem_of_getElem? hk)
          have hlt : k < rs.length := (List.getElem?_eq_some_iff.mp hrk).1
          refine ⟨rfl, _, rfl, _, rfl, x, C, dx, _, _, rfl, s9a _ _ x9, B.cl, B.n3, rfl, D3, _, rfl, DGet.k (k := Sum.inl (k : Int)) (s9a _ _ d9), _, rfl, ?_⟩
          have ev : (valV (aimD rs) (Sum.inl (k : Int))).isSome = (aim rs k).isSome := by
            unfold aimD
            rw [mapD_val]
            cases e : aim rs k with
            | none =>
              rw [if_neg]
              · rfl
              · intro hm
                have := (mem_inn.mp hm).2
                rw [e] at this
                cases this
            | some j =>
              rw [if_pos (mem_inn.mpr ⟨hlt, by rw [e]; rfl⟩)]
              rfl
          rw [ev]
          cases e : aim rs k with
          | none =>
            refine iteT ⟨_, rfl, _, hDa, ?_, fun c o hc ec => ?_, ?_⟩
            · rw [nats_len]
              have h1 : (((brs rs).take i).filter fun k => (aim rs k).isNone).length ≤ ((brs rs).take i).length := List.length_filter_le _ _
              have h2 : ((brs rs).take i).length ≤ (brs rs).length := by rw [List.length_take]; omega
              have h3 := brsTo_len rs rs.length
              have h4 : (brs rs).length = (brsTo rs rs.length).length := rfl
              exact small1000 (by omega)
            · rw [upd_ne hc]
              exact kpa c o hc ec
            · rw [upd_same, tk, List.filter_append, nats_app]
              have z : [k].filter (fun k => (aim rs k).isNone) = [k] := by simp [List.filter, e]
              rw [z]
              rfl
          | some j =>
            refine iteF ⟨kpa, ?_⟩
            rw [tk, List.filter_append]
            have z : [k].filter (fun k => (aim rs k).isNone) = [] := by simp [List.filter, e]
            rw [z, List.append_nil]
            exact hDa
        · rintro Ha ⟨kpa, hDa⟩
          rw [nats_len, List.take_length] at hDa
          have s9a : Same H9 Ha := fun c o e => kpa c o (ne_of_none e hD4) e
          refine ⟨D4, _, rfl, .inl ⟨SqL.of hDa, fun o ho => ?_⟩⟩
          have s9b := s9a.trans (same_new (o := .tup (nats (outs rs))) ho)
          have xb := s9b _ _ x9
          have onx : o ≠ x := ne_of_none' (s9a _ _ x9) ho
          refine ⟨_, rfl, x, C, dx, _, rfl, xb, B.cl, B.n4, (by show 3 < 1000; decide), ?_⟩
          refine qq _ (fun b u hb e => ?_) ⟨ok, dx, p, q, D3, o, ys, ⟨upd_same, ?_, ?_, ?_, ?_, ?_⟩⟩
          · rw [upd_ne hb]
            exact s9b _ _ (k9 b u hb (k7 b u hb e))
          · exact sqT_put (sqT_same s9b (t9 _ _ (t7 _ _ p4))) xb trivial
          · exact rowsP_of (fun a zs h => sqT_put (sqT_same s9b (t9 _ _ (t7 _ _ h))) xb trivial) r4
          · exact sqT_put (sqT_same s9b (t9 _ _ q7)) xb trivial
          · rw [upd_ne D3x]
            exact s9b _ _ d9
          · exact SqT.of (by rw [upd_ne onx]; exact upd_same)
end

/-! ### own errors of one field -/
/-- __init__ stores its argument under f -/
def spErrInit (K : PySem.W.Frag) (C : Addr) (f : Str) : Sp := fun vs H Q _ => ∃ a y, vs = [.ref a, y] ∧ H a = some (exo a C none) ∧ ∀ dx, H dx = none → dx ≠ a → Q .non (upd (upd H dx (exd dx [(f, y)])) a (exo a C (some dx)))
/-- what is known of such a class x at C -/
structure Err (P : Program) (w : World) (K : PySem.W.Frag) (mg : Str → Option Value) (base : Heap) (x : Str) (C : Addr) (f : Str) : Prop where
  g : mg x = some (.ref C)
  T : OexC K C
  no : PySem.W.findIn K (.ref C) f = some none
  xf : XfC K C
  te : PySem.W.exmOne K (.ref C) (.ref C) = some true
  ini : ∃ (fI : Addr) (fd : FuncData) (p2 : Str), PySem.W.findIn K (.ref C) "__init__" = some (some (.ref fI)) ∧ PySem.W.typeIn K (.ref fI) = some (.type "function") ∧ Binds K fd ["self", p2] [] ∧ FnOk P w K mg base CX0 1 fI fd ["self", p2] (spErrInit K C f)
theorem err_go {K : PySem.W.Frag} {C : Addr} {f : Str} {y : V} {H1 : Hp} {Q : XK} (q : ∀ dx, H1 dx = none → Q (.ref C) (some dx) (upd H1 dx (.xd [(f, y)]))) :
    [y].length ≤ 1000 ∧ ∀ a, H1 a = none → spErrInit K C f (.ref a :: ([y] ++ [])) (upd H1 a (exo a C none)) (fun v H2 => v = .non ∧ ∃ (d : Addr) (fs : List (Str × V)), H2 a = some (exo a C (some d)) ∧ H2 d = some (exd d fs) ∧ H1 d = none ∧ Q (.ref C) (some d) (upd (del H2 a) d (.xd fs))) (fun _ _ _ => False) := by
  refine ⟨(by show 1 ≤ 1000; decide), fun a ha => ⟨a, y, rfl, upd_same, fun dx hdx hne => ⟨rfl, dx, [(f, y)], upd_same, ?_, ?_, ?_⟩⟩⟩
  · rw [upd_ne hne, upd_same]
  · rw [upd_ne hne] at hdx
    exact hdx
  · have h1 : H1 dx = none := by
      rw [upd_ne hne] at hdx
      exact hdx
    have e : upd (del (upd (upd (upd H1 a (exo a C none)) dx (exd dx [(f, y)])) a (exo a C (some dx))) a) dx (.xd [(f, y)]) = upd H1 dx (.xd [(f, y)]) := by
      funext b
      by_cases hb : b = dx
      · rw [hb, upd_same, upd_same]
      · rw [upd_ne hb, upd_ne hb]
        by_cases hb2 : b = a
        · rw [hb2, del_same, ha]
        · rw [del_ne hb2, upd_ne hb2, upd_ne hb, upd_ne hb2]
    rw [e]
    exact q dx h1
def tRaise1 (K : PySem.W.Frag) (C : Addr) (f : Str) (te : TE) (W : WX) : TS := fun _ σ H => tMkO C (spErrInit K C f) [] (tCons te tNil) σ H fun cls d H' => W cls d σ H'
theorem ps_err {X : Cx} {W : WX} {x f : Str} {C : Addr} {e : Expr} {te : TE} {p pos pos2 : Pos} {k : Nat} (hc : X.calm = true) (tk : Takes X W) (T : Err X.prog X.w X.K X.mg X.base x C f) (hr : Room k X.A) (h2 : 2 ≤ k) (he : PE X e te) (hg : Gl X x := by rfl)
    (hdb : (x == ("__debug__" : Str)) = false := by decide) (hs : starEach (e :: []) X.env = (false, eval e X.env) :: starEach [] X.env := by rfl) (hpl : (backTo pos (starEach [] X.env)).any (·.1) = false := by rfl) :
    PS X (.Raise (some (.Call (.Name x p) [e] [] pos)) none pos2) (tRaise1 X.K C f te W) := by
  obtain ⟨fI, fd, p2, iC, tI, hb, F⟩ := T.ini
  exact ps_raise (pos := pos2) hc tk (pmk_oex (p := p) (pos := pos) T.T iC tI F (hr.mono h2) hb .nil pass0 hg T.g (pa_cons he pa_nil hs) hdb hs hpl)
/-- a method of the class at C that keeps its promise -/
structure HasM (P : Program) (w : World) (K : PySem.W.Frag) (mg : Str → Option Value) (base : Heap) (CX : CXT) (k : Nat) (C : Addr) (m : Str) (ps : List Str) (sp : Sp) : Prop where
  ex : ∃ (f : Addr) (fd : FuncData), Meth K C m f ∧ Binds K fd ps [] ∧ FnOk P w K mg base CX k f fd ps sp
  cl : Cls K C
theorem HasM.mono {P : Program} {w : World} {K : PySem.W.Frag} {mg : Str → Option Value} {base : Heap} {CX : CXT} {j k : Nat} {C : Addr} {m : Str} {ps : List Str} {sp : Sp} (h : HasM P w K mg base CX j C m ps sp) (l : j ≤ k) : HasM P w K mg base CX k C m ps sp := by
  obtain ⟨⟨f, fd, a, b, c⟩, d⟩ := h
  exact ⟨⟨f, fd, a, b, c.mono l⟩, d⟩
section
variable {X : Cx} {CX : CXT} {k : Nat} {C : Addr} {ps : List Str} {sp : Sp} {E : XK} {m : Str} {p pos apos : Pos} {e o : Expr} {es : List Expr} {t : TA} {ta : TE}
theorem pe_methH {pl : Sem Bool} (M : HasM X.prog X.w X.K X.mg X.base CX k C m ps sp) (he : PE X o ta) (hr : Room k X.A) (hx : Passes CX X E) (ha : PA X (e :: es) t)
    (hst : starEach (e :: es) X.env = (false, eval e X.env) :: starEach es X.env := by rfl) (hpl : (backTo pos (starEach es X.env)).any (·.1) = false := by rfl)
    (ht : eval (.Call (.Attribute o m apos) (e :: es) [] pos) X.env = (do
      let ov ← eval o X.env
      standAt apos.atName
      let (f, first) ← holding [ov] (getMethod ov m pl)
      callWith pos f first (backTo pos (starEach (e :: es) X.env)) (backToKw pos (keywordEach [] X.env))) := by rfl) : PE X (.Call (.Attribute o m apos) (e :: es) [] pos) (tMeth C m sp [] E ta t) := by
  obtain ⟨⟨f, fd, a, b, c⟩, d⟩ := M
  exact pe_meth he d a c hr b .nil hx ha hst hpl ht
theorem pe_methH0 {pl : Sem Bool} (M : HasM X.prog X.w X.K X.mg X.base CX k C m ps sp) (he : PE X o ta) (hr : Room k X.A) (hx : Passes CX X E)
    (ht : eval (.Call (.Attribute o m apos) [] [] pos) X.env = (do
      let ov ← eval o X.env
      standAt apos.atName
      let (f, first) ← holding [ov] (getMethod ov m pl)
      callWith pos f first (backTo pos (starEach [] X.env)) (backToKw pos (keywordEach [] X.env))) := by rfl) : PE X (.Call (.Attribute o m apos) [] [] pos) (tMeth C m sp [] E ta tNil) := by
  obtain ⟨⟨f, fd, a, b, c⟩, d⟩ := M
  exact pe_meth0 he d a c hr b .nil hx ht
end
/-! ### check_even -/
abbrev sIniE : Stmt := inClass (topS 6) 0
theorem scIniE : FnScope ["self", "index"] ["self", "index"] (defScope sIniE) := ⟨rfl, rfl, rfl, by decide +kernel, rfl, by decide +kernel, by decide +kernel⟩
def isEv (rs : List Row) (i : Nat) : Bool := match rs[i]? with
  | some (.even _) => true
  | _ => false
def noEven (rs : List Row) : Prop := ∀ i, isEv rs i = false
/-- at i stands the first even row -/
def firstEv (rs : List Row) (i : Nat) : Prop := isEv rs i = true ∧ ∀ j, j < i → isEv rs j = false
theorem ev_kind (r : Row) : decide (kindOf r = ("even" : Str)) = (match r with | .even _ => true | _ => false) := by
  cases r with
  | label s => exact (by decide +kernel : decide (("label" : Str) = "even") = false)
  | words n => exact (by decide +kernel : decide (("words" : Str) = "even") = false)
  | even n => exact (by decide +kernel : decide (("even" : Str) = "even") = true)
  | branch c n m => exact (by decide +kernel : decide (("branch" : Str) = "even") = false)
theorem isEv_at {rs : List Row} {i : Nat} {r : Row} (h : rs[i]? = some r) : isEv rs i = match r with
    | .even _ => true
    | _ => false := by
  have e : isEv rs i = (match some r with | some (.even _) => true | _ => false) := by
    rw [← h]
    rfl
  rw [e]
  cases r <;> rfl
/-- what HasEven(i) comes to -/
def EvE (CE : Addr) (i : Nat) (H : Hp) (E : XK) : Prop := ∀ H' dx, Same H H' → H' dx = none → E (.ref CE) (some dx) (upd H' dx (.xd [("index", .int (i : Int))]))
def spCheckEven (K : PySem.W.Frag) (C CE : Addr) : Sp := fun vs H Q E => ∃ (x : Addr) (rs : List Row), vs = [.ref x] ∧ DraftV K H C x rs ∧ ((noEven rs ∧ ∀ H', Same H H' → Q .non H') ∨ ∃ i, firstEv rs i ∧ EvE CE i H E)
abbrev mth (j : Nat) : Stmt := inClass (topS 37) j
abbrev sCheckEven : Stmt := mth 15
theorem scCheckEven : FnScope ["self", "index", "row"] ["self"] (defScope sCheckEven) := ⟨rfl, rfl, rfl, by decide +kernel, rfl, by decide +kernel, by decide +kernel⟩
section
variable {P : Program} {w : World} {K : PySem.W.Frag} {mg : Str → Option Value} {base : Heap}
theorem ok_iniE {f C : Addr} {fd : FuncData} (F : Fun K "__init__" "HasEven.__init__" sIniE f fd) (T : OexC K C) (no : PySem.W.findIn K (.ref C) "index" = some none) : FnOk P w K mg base CX0 1 f fd ["self", "index"] (spErrInit K C "index") := by
  refine F.ok scIniE (fun vs H Q E h => ?_) (fun cdv A outer s H vs Q E hr h => ?_)
  · obtain ⟨a, y, rfl, _⟩ := h
    rfl
  · obtain ⟨a, y, rfl, ha, q⟩ := h
    exact ⟨_, pss_one (ps_ost (pv 0) (pv 1)), _, rfl, _, rfl, a, C, rfl, T, no, .inl ⟨ha, q⟩⟩
theorem ok_checkEven {f C CE : Addr} {fd : FuncData} (F : Fun K "check_even" "Draft.check_even" sCheckEven f fd) (T : Bi mg) (B : DrC K C) (S : Err P w K mg base "HasEven" CE "index") : FnOk P w K mg base (L2.CX P w) 3 f fd ["self"] (spCheckEven K C CE) := by
  refine F.okX scCheckEven (fun vs H Q E h => ?_) (fun cdv A outer s H vs Q E hr h => ?_)
  · obtain ⟨x, rs, rfl, _⟩ := h
    rfl
  · obtain ⟨x, rs, rfl, ⟨ok, dx, p, q, d, o, ys, hx⟩, want⟩ := h
    refine ⟨_, pss_one (ps_for (passes_of rfl) rfl (pi_enumT (by rfl) T.enumerate (pa_cons (pe_fld (pv 0) rfl) pa_nil)) (pg_tup rfl (pgs_cons (pg_name (i := 1) scCheckEven.nd rfl (.inl rfl)) (pgs_cons (pg_name (i := 2) scCheckEven.nd rfl (.inl rfl)) pgs_nil)))
      (pss_one (ps_if (pt_cmpR op_eq (pe_ix ix_tup (pv 2) pe_int (fun _ _ => rfl)) pe_str (nomark _)) (pss_one (ps_err rfl (takes_of rfl rfl rfl rfl) S hr (by decide) (pv 1))) pss_nil))), ?_⟩
    have lx := rowsV_len (rowsP_V hx.rows)
    refine ⟨_, rfl, x, C, dx, _, _, rfl, hx.ins, B.cl, B.n1, rfl, p, ys, rfl, hx.parts, ?_⟩
    refine for_it walk_enumT (fun i σ H4 => ∃ (a b : Option V), σ = [some (.ref x), a, b] ∧ Same H H4 ∧ ∀ j, j < i → isEv rs j = false) ⟨none, none, rfl, Same.refl H, fun j hj => absurd hj (Nat.not_lt_zero _)⟩ (fun i σ H4 _ ⟨_, _, _, sm, _⟩ => sqT_same sm hx.parts) ?_ ?_
    · rintro i z σ H4 H4' hi ⟨a, b, rfl, sm, none⟩ ⟨TT, x', y, rfl, hT, rfl, hx', hy⟩
      cases hx'
      have s5 : Same H4 (upd H4 TT (.tup [.int (i : Nat), y])) := same_new hT
      obtain ⟨r, hri, hrv⟩ := rowsV_get (rowsP_V hx.rows) hy
      have hrv5 := rowV_same (sm.trans s5) hrv
      obtain ⟨ta, zs, rfl, ht, h0⟩ := rowV_tup hrv5
      have eb := isEv_at hri
      refine ⟨TT, _, rfl, SqT.of upd_same, rfl, _, _, rfl, _, _, rfl, rfl, ?_⟩
      refine ⟨_, rfl, ta, zs, _, _, rfl, rfl, ht, at_of (i := 0) h0, rfl, _, rfl, ?_⟩
      rw [strEq, ev_kind]
      have go : isEv rs i = false → ∃ (a b : Option V), ([some (.ref x), some (.int (i : Nat)), some (.ref ta)] : L2.St) = [some (.ref x), a, b] ∧ Same H (upd H4 TT (.tup [.int (i : Nat), .ref ta])) ∧ ∀ j, j < i + 1 → isEv rs j = false := fun e => ⟨_, _, rfl, sm.trans s5, fun j hj => by
        rcases Nat.lt_or_eq_of_le (Nat.le_of_lt_succ hj) with h | h
        · exact none j h
        · rw [h]; exact e⟩
      cases r with
      | even n =>
        refine iteT ⟨_, rfl, err_go fun dd hd => ?_⟩
        rcases want with ⟨nE, _⟩ | ⟨i', ⟨h1, h2⟩, hE⟩
        · rw [nE i] at eb
          cases eb
        · obtain rfl : i = i' := by
            rcases Nat.lt_trichotomy i i' with h | h | h
            · rw [h2 i h] at eb; cases eb
            · exact h
            · rw [none i' h] at h1; cases h1
          exact hE _ dd (sm.trans s5) hd
      | words n => exact iteF (go eb)
      | label n => exact iteF (go eb)
      | branch c n m => exact iteF (go eb)
    · rintro σ H4 ⟨a, b, rfl, sm, none⟩
      rcases want with ⟨_, qq⟩ | ⟨i', ⟨h1, h2⟩, _⟩
      · exact qq H4 sm
      · have hlt : i' < rs.length := by
          unfold isEv at h1
          split at h1
          · rename_i n e
            exact (List.getElem?_eq_some_iff.mp e).1
          · cases h1
        rw [none i' (by rw [lx]; exact hlt)] at h1
        cases h1
end

inductive Each2 {α : Type} (R : V → α → Prop) : List V → List α → Prop
  | nil : Each2 R [] []
  | cons {v : V} {vs : List V} {a : α} {as : List α} : R v a → Each2 R vs as → Each2 R (v :: vs) (a :: as)
theorem Each2.imp {α : Type} {R S : V → α → Prop} (h : ∀ v a, R v a → S v a) : ∀ {vs : List V} {as : List α}, Each2 R vs as → Each2 S vs as
  | _, _, .nil => .nil
  | _, _, .cons x t => .cons (h _ _ x) (t.imp h)
theorem Each2.len {α : Type} {R : V → α → Prop} : ∀ {vs : List V} {as : List α}, Each2 R vs as → vs.length = as.length
  | _, _, .nil => rfl
  | _, _, .cons _ t => congrArg (· + 1) t.len
theorem Each2.app {α : Type} {R : V → α → Prop} : ∀ {vs ws : List V} {as bs : List α}, Each2 R vs as → Each2 R ws bs → Each2 R (vs ++ ws) (as ++ bs)
  | _, _, _, _, .nil, h => h
  | _, _, _, _, .cons x t, h => .cons x (t.app h)
theorem Each2.get {α : Type} {R : V → α → Prop} : ∀ {vs : List V} {as : List α}, Each2 R vs as → ∀ {i : Nat} {v : V}, vs[i]? = some v → ∃ a, as[i]? = some a ∧ R v a
  | _, _, .nil, i, v, h => by simp at h
  | _, _, .cons g t, 0, v, e => by
    obtain rfl : _ = v := Option.some.inj e
    exact ⟨_, rfl, g⟩
  | _, _, .cons g t, i + 1, v, e => t.get (i := i) e
/-! ### what reasons tells -/
def fN (ks : List Nat) : Int → Bool := mem (ks.map fun (k : Nat) => (k : Int))
theorem fN_mem {ks : List Nat} {k : Nat} : fN ks (k : Int) = decide (k ∈ ks) := by
  unfold fN mem
  by_cases h : k ∈ ks
  · rw [decide_eq_true h]
    exact decide_eq_true (List.mem_map.mpr ⟨k, h, rfl⟩)
  · rw [decide_eq_false h]
    refine decide_eq_false fun z => ?_
    obtain ⟨j, hj, e⟩ := List.mem_map.mp z
    exact h (by rw [← Int.ofNat.inj e]; exact hj)
abbrev Tolds := List (Nat × List Int)
def Chunk (far lg : List Nat) (ts : Tolds) : Prop := ts.map (·.1) = lg ∧ ∀ t ∈ ts, t.2.Perm (far.map fun (k : Nat) => (k : Int)) ∧ t.2.Pairwise (· ≤ ·)
inductive Tell (rs : List Row) : List Nat → Tolds → Prop
  | stop {far : List Nat} : long (fN (outs rs ++ far)) rs = [] → Tell rs far []
  | more {far : List Nat} {ts rest : Tolds} : long (fN (outs rs ++ far)) rs ≠ [] → Chunk far (long (fN (outs rs ++ far)) rs) ts → Tell rs (far ++ long (fN (outs rs ++ far)) rs) rest → Tell rs far (ts ++ rest)
def PairV (K : PySem.W.Frag) (H : Hp) (v : V) (t : Nat × List Int) : Prop := ∃ a b, v = .ref a ∧ SqT K H a [.int (t.1 : Int), .ref b] ∧ SqT K H b (t.2.map V.int)
abbrev ToldV (K : PySem.W.Frag) (H : Hp) (ys : List V) (ts : Tolds) : Prop := Each2 (PairV K H) ys ts
theorem pairV_of {K : PySem.W.Frag} {H H' : Hp} {v : V} {t : Nat × List Int} (e : ∀ a xs, SqT K H a xs → SqT K H' a xs) (h : PairV K H v t) : PairV K H' v t := by
  obtain ⟨a, b, h1, h2, h3⟩ := h
  exact ⟨a, b, h1, e _ _ h2, e _ _ h3⟩
theorem told_of {K : PySem.W.Frag} {H H' : Hp} {ys : List V} {ts : Tolds} (e : ∀ a xs, SqT K H a xs → SqT K H' a xs) (h : ToldV K H ys ts) : ToldV K H' ys ts := h.imp fun _ _ x => pairV_of e x
/-- the branches that are not far yet -/
def rem (rs : List Row) (far : List Nat) : List Nat := (inn rs).filter fun k => !decide (k ∈ outs rs ++ far)
theorem filter_two {α : Type} (p : α → Bool) : ∀ l : List α, (l.filter p).length + (l.filter fun a => !p a).length = l.length
  | [] => rfl
  | a :: l => by
    have h := filter_two p l
    cases e : p a with
    | true => simp [List.filter, e]; omega
    | false => simp [List.filter, e]; omega
theorem long_rem (rs : List Row) (far : List Nat) : long (fN (outs rs ++ far)) rs = (rem rs far).filter fun k => tooL (way (fN (outs rs ++ far)) rs k) := by
  unfold long rem
  rw [List.filter_filter]
  congr 1
  funext k
  unfold isLong
  rw [fN_mem, Bool.and_comm]
theorem rem_next (rs : List Row) (far : List Nat) : (rem rs (far ++ long (fN (outs rs ++ far)) rs)).length + (long (fN (outs rs ++ far)) rs).length = (rem rs far).length := by
  have e : rem rs (far ++ long (fN (outs rs ++ far)) rs) = (rem rs far).filter fun k => !tooL (way (fN (outs rs ++ far)) rs k) := by
    unfold rem
    rw [List.filter_filter]
    apply List.filter_congr
    intro k hk
    have hm : k ∈ long (fN (outs rs ++ far)) rs ↔ k ∉ outs rs ++ far ∧ tooL (way (fN (outs rs ++ far)) rs k) = true := by
      unfold long
      rw [List.mem_filter]
      unfold isLong
      rw [fN_mem, Bool.and_eq_true]
      constructor
      · rintro ⟨_, h1, h2⟩
        exact ⟨by simpa using h1, h2⟩
      · rintro ⟨h1, h2⟩
        exact ⟨hk, by simpa using h1, h2⟩
    rw [← List.append_assoc]
    by_cases h1 : k ∈ outs rs ++ far
    · have h2 : k ∈ outs rs ++ far ++ long (fN (outs rs ++ far)) rs := List.mem_append_left _ h1
      simp only [decide_eq_true h2, decide_eq_true h1, Bool.not_true, Bool.and_false]
    · cases h3 : tooL (way (fN (outs rs ++ far)) rs k) with
      | true =>
        have h2 : k ∈ outs rs ++ far ++ long (fN (outs rs ++ far)) rs := List.mem_append_right _ (hm.mpr ⟨h1, h3⟩)
        simp only [decide_eq_true h2, decide_eq_false h1, Bool.not_true, Bool.not_false, Bool.and_true]
      | false =>
        have h2 : k ∉ outs rs ++ far ++ long (fN (outs rs ++ far)) rs := fun z => by
          rcases List.mem_append.mp z with z | z
          · exact h1 z
          · have := (hm.mp z).2
            rw [h3] at this
            cases this
        simp only [decide_eq_false h2, decide_eq_false h1, Bool.not_false, Bool.and_true]
  rw [e]
  have h := filter_two (fun k => tooL (way (fN (outs rs ++ far)) rs k)) (rem rs far)
  have l := long_rem rs far
  rw [← l] at h
  omega

def rTupOf (K : PySem.W.Frag) : List V → Hp → VK → Prop := fun xs H Q => ∃ p ys, xs = [.ref p] ∧ ((SqL K H p ys ∧ ∀ l, H l = none → Q (.ref l) (upd H l (.tup ys))) ∨ (SqT K H p ys ∧ Q (.ref p) H))
def spReasons (K : PySem.W.Frag) (C CE : Addr) : Sp := fun vs H Q E => ∃ (x : Addr) (rs : List Row), vs = [.ref x] ∧ DraftV K H C x rs ∧
  ((noEven rs ∧ ∀ H' p ys ts, Same H H' → H p = none → H' p = some (.lst ys) → ToldV K H' ys ts → Tell rs [] ts → Q (.ref p) H') ∨ ∃ i, firstEv rs i ∧ EvE CE i H E)
abbrev sReasons : Stmt := mth 16
theorem scReasons : FnScope ["self", "found", "far", "longer", "index"] ["self"] (defScope sReasons) := ⟨rfl, rfl, rfl, by decide +kernel, rfl, by decide +kernel, by decide +kernel⟩
theorem nats_sq {K : PySem.W.Frag} {H : Hp} {a : Addr} {ks : List Nat} (h : SqL K H a (nats ks)) : SqL K H a ((ks.map fun (k : Nat) => (k : Int)).map V.int) := by
  rw [← nats_int]
  exact h
theorem nats_get {ks : List Nat} {i : Nat} {z : V} (h : (nats ks)[i]? = some z) : ∃ k, ks[i]? = some k ∧ z = V.int ((k : Nat) : Int) := by
  unfold nats at h
  rw [List.getElem?_map] at h
  cases e : ks[i]? with
  | none => rw [e] at h; cases h
  | some k => rw [e] at h; exact ⟨k, rfl, (Option.some.inj h).symm⟩
theorem long_len (f : Int → Bool) (rs : List Row) : (long f rs).length ≤ rs.length := by
  unfold long
  exact Nat.le_trans (List.length_filter_le _ _) (inn_len rs)
section
variable {P : Program} {w : World} {K : PySem.W.Frag} {mg : Str → Option Value} {base : Heap}
theorem ok_reasons {f C CE : Addr} {fd : FuncData} (F : Fun K "reasons" "Draft.reasons" sReasons f fd) (T : Bi mg) (B : DrC K C) (G1 : HasM P w K mg base (L2.CX P w) 3 C "check_even" ["self"] (spCheckEven K C CE))
    (G2 : Has P w K mg base CX0 3 "too_long_ones" ["parts", "aims", "far"] (spTooLong K)) : FnOk P w K mg base (L2.CX P w) 4 f fd ["self"] (spReasons K C CE) := by
  refine F.okX scReasons (fun vs H Q E h => ?_) (fun cdv A outer s H vs Q E hr h => ?_)
  · obtain ⟨x, rs, rfl, _⟩ := h
    rfl
  · obtain ⟨x, rs, rfl, hdr, want⟩ := h
    obtain ⟨ok, dx, p, q, d, o, ys0, hx⟩ := id hdr
    refine ⟨_, (pss_cons (ps_expr (pe_methH0 G1 (pv 0) hr (passes_call (W := fun cls d _ H => E cls d H) (takes_of rfl rfl rfl rfl) (fun _ _ _ _ h => h))))
      (pss_cons (ps_set (i := 1) scReasons.nd rfl (.inl rfl) (pe_lst pa_nil))
      (pss_cons (ps_set (i := 2) scReasons.nd rfl (.inr rfl) (pe_lst pa_nil))
      (pss_one (ps_while (passes_of rfl) (pt_val pe_bl)
        (pss_cons (ps_set (i := 3) scReasons.nd rfl (.inl rfl) (pe_callH G2 hr (by rfl) pass0 (pa_cons (pe_fld (pv 0) rfl) (pa_cons (pe_fld (pv 0) rfl) (pa_cons (pe_op op_cat (pe_callTy call_list_of (by rfl) T.list (by decide +kernel) (pa_cons (pe_fld (pv 0) rfl) pa_nil)) (pv 2)) pa_nil)))))
        (pss_cons (ps_if (pt_not (pt_truth (pv 3) (by intro _; rfl))) (pss_one (ps_ret (pv 1))) pss_nil)
        (pss_cons (ps_expr (pe_bm PySem.F.plainAttrs_list PySem.F.slot_list_extend PySem.F.type_list_extend mt_extend (pv 1) (pa_cons (pe_lc (own := [("index", 4)]) (g := gName 4) (tt := tYes) (te := tTup (tCons (tVar 4) (tCons (tCB (rTupOf K) (tCons (tCB (rSortedI K) (tCons (tVar 2) tNil)) tNil)) tNil))) rfl scReasons.nd (pi_list (pv 3)) (blkOk_by (N := ["self", "found", "far", "longer", "index"]) (sc := defScope sReasons) (by decide +kernel)) (fun _ _ _ _ _ => pg_name (i := 4) scReasons.nd rfl (.inl rfl)) (fun _ _ _ _ _ => pts_nil)
            (fun _ _ _ _ _ => pe_tup (pa_cons (pv 4) (pa_cons (pe_callTy call_tuple_of (by rfl) T.tuple (by decide +kernel) (pa_cons (pe_callB cr_sortedI (by rfl) T.sorted (by decide +kernel) (pa_cons (pv 2) pa_nil)) pa_nil)) pa_nil)))) pa_nil)))
        (pss_one (ps_expr (pe_bm PySem.F.plainAttrs_list PySem.F.slot_list_extend PySem.F.type_list_extend mt_extend (pv 2) (pa_cons (pv 3) pa_nil)))))))))))), ?_⟩
    refine ⟨_, rfl, x, dx, _, rfl, hx.ins, rfl, x, rs, rfl, hdr, ?_⟩
    rcases want with ⟨nE, qq⟩ | ⟨i, hi, hE⟩
    · refine .inl ⟨nE, fun H1 s1 => ?_⟩
      refine ⟨Nat.zero_le _, fun fL hfL => ⟨Nat.zero_le _, fun rL hrL => ?_⟩⟩
      have s2 := s1.trans (same_new (o := .lst []) hfL)
      have s3 := s2.trans (same_new (o := .lst []) hrL)
      have frL : fL ≠ rL := ne_of_none upd_same hrL
      have hfn : H fL = none := by
        cases e : H fL with
        | none => rfl
        | some u => rw [s1 _ _ e] at hfL; cases hfL
      have hrn : H rL = none := by
        cases e : H rL with
        | none => rfl
        | some u => rw [s2 _ _ e] at hrL; cases hrL
      have ol := ok.len
      have okR : ∀ r ∈ rs, RowOk r := fun r hr => fine_ok (ok.fine r hr)
      refine ⟨fun m σ H4 => ∃ (u : Option V) (ys : List V) (pre : Tolds) (far : List Nat), σ = [some (.ref x), some (.ref fL), some (.ref rL), u, none] ∧ Same H H4 ∧ H4 fL = some (.lst ys) ∧ ToldV K H4 ys pre ∧ H4 rL = some (.lst (nats far)) ∧ (rem rs far).length = m ∧ pre.length + m ≤ 900 ∧ far.length + m ≤ 900 ∧ ∀ rest, Tell rs far rest → Tell rs [] (pre ++ rest),
        ⟨(rem rs []).length, none, [], [], [], rfl, s3, by rw [upd_ne frL]; exact upd_same, .nil, upd_same, rfl, ?_, ?_, fun rest h => h⟩, ?_⟩
      · have h1 : (rem rs []).length ≤ (inn rs).length := List.length_filter_le _ _
        have h2 := inn_len rs
        simp only [List.length_nil]
        omega
      · have h1 : (rem rs []).length ≤ (inn rs).length := List.length_filter_le _ _
        have h2 := inn_len rs
        simp only [List.length_nil]
        omega
      · rintro m σ H4 ⟨u, ys, pre, far, rfl, s4, hf4, hys, hr4, hm, b1, b2, tell⟩
        refine ⟨true, rfl, iteT ⟨fun σ' H' => ∃ m', m' < m ∧ ∃ (u : Option V) (ys : List V) (pre : Tolds) (far : List Nat), σ' = [some (.ref x), some (.ref fL), some (.ref rL), u, none] ∧ Same H H' ∧ H' fL = some (.lst ys) ∧ ToldV K H' ys pre ∧ H' rL = some (.lst (nats far)) ∧ (rem rs far).length = m' ∧ pre.length + m' ≤ 900 ∧ far.length + m' ≤ 900 ∧ ∀ rest, Tell rs far rest → Tell rs [] (pre ++ rest), fun σ' H' h => h, ?_⟩⟩
        have hx4 := hx.same s4
        -- longer
        refine ⟨_, rfl, x, C, dx, _, _, rfl, hx4.ins, B.cl, B.n1, rfl, _, rfl, x, C, dx, _, _, rfl, hx4.ins, B.cl, B.n3, rfl, _, rfl, x, C, dx, _, _, rfl, hx4.ins, B.cl, B.n4, rfl, o, _, rfl, .inr hx4.outs, fun l1 hl1 => ?_⟩
        have s5 := same_new (o := .lst (nats (outs rs))) hl1
        have l1r : l1 ≠ rL := ne_of_none' hr4 hl1
        refine ⟨_, rfl, l1, rL, _, _, rfl, rfl, upd_same, s5 _ _ hr4, ?_, fun l2 hl2 => ?_⟩
        · rw [nats_len, nats_len]
          have h1 : (outs rs).length ≤ (brs rs).length := List.length_filter_le _ _
          have h2 := brsTo_len rs rs.length
          have h3 : (brs rs).length = (brsTo rs rs.length).length := rfl
          have : (outs rs).length + far.length ≤ 2000 := by omega
          exact Nat.le_trans this (by decide)
        have s6 := s5.trans (same_new (o := .lst (nats (outs rs) ++ nats far)) hl2)
        have hx6 := hx4.same s6
        refine ⟨p, d, l2, ys0, rs, (outs rs ++ far).map fun (k : Nat) => (k : Int), rfl, hx6.parts, rowsP_V hx6.rows, okR, ol, hx6.aims, nats_sq (SqL.of (by rw [upd_same, nats_app])), fun H7 lL s7 hlL0 hlL => ?_⟩
        have s67 := s6.trans s7
        have s47 := s4.trans s67
        have hf7 := s67 _ _ hf4
        have hr7 := s67 _ _ hr4
        have hys7 : ToldV K H7 ys pre := told_of (fun a xs h => sqT_same s67 h) hys
        have elg : long (mem ((outs rs ++ far).map fun (k : Nat) => (k : Int))) rs = long (fN (outs rs ++ far)) rs := rfl
        rw [elg] at hlL
        have nx := rem_next rs far
        generalize hlg : long (fN (outs rs ++ far)) rs = lg at hlL nx
        refine ⟨_, rfl, _, .inl ⟨_, SqL.of hlL, rfl⟩, ?_⟩
        cases lg with
        | nil =>
          refine iteT ⟨_, rfl, ?_⟩
          refine qq H7 fL ys pre s47 hfn hf7 hys7 ?_
          have z := tell [] (.stop hlg)
          rw [List.append_nil] at z
          exact z
        | cons k0 lg0 =>
          refine iteF ?_
          generalize hlg2 : k0 :: lg0 = lg at *
          have lgn : lg ≠ [] := by rw [← hlg2]; simp
          -- found.extend
          refine ⟨_, rfl, .inl ⟨rfl, _, SqL.of hf7⟩, _, rfl, lL, rfl, ⟨_, SqL.of hlL⟩, fun D hD => ?_⟩
          have Df : D ≠ fL := ne_of_none' hf7 hD
          have Dr : D ≠ rL := ne_of_none' hr7 hD
          have DlL : D ≠ lL := ne_of_none' hlL hD
          refine lc_it walk_list (fun i H8 => (∀ c u, c ≠ D → H7 c = some u → H8 c = some u) ∧ ∃ zs ts, H8 D = some (.lst zs) ∧ ToldV K H8 zs ts ∧ ts.map (·.1) = lg.take i ∧ ∀ t ∈ ts, t.2.Perm (far.map fun (k : Nat) => (k : Int)) ∧ t.2.Pairwise (· ≤ ·))
            ⟨fun c u hc e => by rw [upd_ne hc]; exact e, [], [], upd_same, .nil, rfl, fun t ht => by cases ht⟩ (fun i H8 _ ⟨kp, _⟩ => SqL.of (kp _ _ DlL.symm hlL)) ?_ ?_
          · rintro i z H8 H8' hi ⟨kp, zs, ts, hD8, hts, hfst, hall⟩ ⟨rfl, hz⟩
            obtain ⟨k, hk, rfl⟩ := nats_get hz
            have hr8 := kp _ _ Dr.symm hr7
            refine ⟨rfl, yes_go (iteT ⟨_, rfl, _, rfl, rL, _, rfl, nats_sq (SqL.of hr8), fun ns' a hperm hsort ha => ⟨a, _, rfl, .inl ⟨SqL.of upd_same, fun t ht => ⟨(by show 2 ≤ sizeLine; decide), fun b hb => ?_⟩⟩⟩⟩)⟩
            have t1 := (same_new (o := .lst (ns'.map V.int)) ha).trans (same_new (o := .tup (ns'.map V.int)) ht)
            have t2 := t1.trans (same_new (o := .tup [V.int (k : Int), .ref t]) hb)
            have hDb := t2 _ _ hD8
            have zl : zs.length = i := by
              rw [hts.len, ← List.length_map (f := (·.1)), hfst, List.length_take]
              have : i < lg.length := (List.getElem?_eq_some_iff.mp hk).1
              omega
            have lgl : lg.length ≤ 900 := by
              rw [← hlg]
              exact Nat.le_trans (long_len _ _) ol
            have hi3 : i < lg.length := (List.getElem?_eq_some_iff.mp hk).1
            have put : ∀ (u : HO) c xs, SqT K (upd (upd (upd H8' a (.lst (ns'.map V.int))) t (.tup (ns'.map V.int))) b (.tup [V.int (k : Int), .ref t])) c xs → SqT K (upd (upd (upd (upd H8' a (.lst (ns'.map V.int))) t (.tup (ns'.map V.int))) b (.tup [V.int (k : Int), .ref t])) D u) c xs := fun u c xs h => sqT_put h hDb trivial
            refine ⟨zs, hDb, small1000 (by omega), fun c u hc e => ?_, zs ++ [.ref b], ts ++ [(k, ns')], upd_same, ?_, ?_, ?_⟩
            · rw [upd_ne hc]
              exact t2 _ _ (kp c u hc e)
            · exact (told_of (fun c xs h => put _ c xs (sqT_same t2 h)) hts).app (.cons ⟨b, t, rfl, put _ _ _ (SqT.of upd_same), put _ _ _ (SqT.of (same_new hb _ _ upd_same))⟩ .nil)
            · rw [List.map_append, hfst, List.take_add_one, hk]
              rfl
            · intro t' ht'
              rcases List.mem_append.mp ht' with h | h
              · exact hall t' h
              · obtain rfl := List.mem_singleton.mp h
                exact ⟨hperm, hsort⟩
          · rintro H8 ⟨kp, zs, ts, hD8, hts, hfst, hall⟩
            rw [nats_len, List.take_length] at hfst
            have s78 : Same H7 H8 := fun c u e => kp c u (ne_of_none e hD) e
            have hf8 := s78 _ _ hf7
            have tl : ts.length = lg.length := by rw [← hfst, List.length_map]
            have yl : ys.length = pre.length := hys.len
            have zl : zs.length = lg.length := by rw [hts.len, tl]
            refine ⟨fL, D, ys, zs, rfl, rfl, hf8, hD8, ?_, ?_⟩
            · have : ys.length + zs.length ≤ 2000 := by omega
              exact Nat.le_trans this (by decide)
            have put9 : ∀ c xs, SqT K H8 c xs → SqT K (upd H8 fL (.lst (ys ++ zs))) c xs := fun c xs h => sqT_put h hf8 trivial
            have hr9 : upd H8 fL (.lst (ys ++ zs)) rL = some (.lst (nats far)) := by
              rw [upd_ne frL.symm]
              exact s78 _ _ hr7
            have hl9 : upd H8 fL (.lst (ys ++ zs)) lL = some (.lst (nats lg)) := by
              rw [upd_ne (fun z => by rw [z] at hlL0; rw [s6 _ _ hf4] at hlL0; cases hlL0)]
              exact s78 _ _ hlL
            refine ⟨_, rfl, .inl ⟨rfl, _, SqL.of hr9⟩, _, rfl, rL, lL, _, _, rfl, rfl, hr9, hl9, ?_, ?_⟩
            · rw [nats_len, nats_len]
              have : far.length + lg.length ≤ 2000 := by omega
              exact Nat.le_trans this (by decide)
            have lpos : 0 < lg.length := List.length_pos_iff.mpr lgn
            refine ⟨(rem rs (far ++ lg)).length, by omega, _, ys ++ zs, pre ++ ts, far ++ lg, rfl, ?_, ?_, ?_, ?_, rfl, ?_, ?_, ?_⟩
            · exact same_upd (same_upd (s47.trans s78) hfn) hrn
            · rw [upd_ne frL]
              exact upd_same
            · have put10 : ∀ c xs, SqT K (upd H8 fL (.lst (ys ++ zs))) c xs → SqT K (upd (upd H8 fL (.lst (ys ++ zs))) rL (.lst (nats far ++ nats lg))) c xs := fun c xs h => sqT_put h hr9 trivial
              exact told_of (fun c xs h => put10 c xs (put9 c xs h)) ((told_of (fun c xs h => sqT_same s78 h) hys7).app hts)
            · rw [upd_same, nats_app]
            · rw [List.length_append]
              omega
            · rw [List.length_append]
              omega
            · intro rest h
              rw [List.append_assoc]
              refine tell _ ?_
              rw [← hlg] at h
              exact .more (by rw [hlg]; exact lgn) ⟨by rw [hlg]; exact hfst, hall⟩ h
    · exact .inr ⟨i, hi, hE⟩
end

/-! ### a for over a list or a tuple -/
def iSeq (K : PySem.W.Frag) (tl : TE) : TI := fun σ H R => tl σ H fun x H1 => ∃ a xs, x = .ref a ∧ (SqL K H1 a xs ∨ SqT K H1 a xs) ∧ ∀ J G, Walk J xs.length G (YAt xs) → (∀ H4, (SqL K H1 a xs → SqL K H4 a xs) → (SqT K H1 a xs → SqT K H4 a xs) → G H4) → R J H1
theorem pi_seq {X : Cx} {tg l : Expr} {tl : TE} (hl : PE X l tl) : PI X tg l (iSeq X.K tl) := by
  refine ⟨fun pins s σ H R I h => ?_⟩
  refine thn (hl.run pins s σ H _ I h) fun v s1 ⟨x, H1, I1, r1, q1⟩ => ?_
  obtain ⟨a, xs, e, hq, q⟩ := q1
  subst e
  cases r1
  have fp : ∀ b ∈ [s1.heap.objs.size], FpOk X pins H1 b := fun b hb => by
    have e : b = s1.heap.objs.size := by simpa using hb
    subst e
    exact I1.fpOk (Nat.le_refl _) (I1.hok.fresh (Nat.le_refl _))
  rcases hq with hq | hq
  · obtain ⟨its, rv, p, hz⟩ := I1.list hq
    refine wpAny_pyIter_list p.isList ?_
    exact ⟨s1.heap.objs.size, [s1.heap.objs.size], _, _, H1, rfl, I1.kept (t' := s1.toks) fun b o e => Heap.get?_push_of_some _ e, turn_list a _, ⟨_, Heap.get?_push_size _ rfl, rfl, rfl⟩, fp, q _ (fun H4 => SqL X.K H4 a xs) walk_list fun H4 e _ => e hq⟩
  · obtain ⟨its, rv, p, hz⟩ := I1.tuple hq
    refine wpAny_pyIter_tuple (show s1.heap.IsTuple a its.toArray from p) ?_
    exact ⟨s1.heap.objs.size, [s1.heap.objs.size], _, _, H1, rfl, I1.kept (t' := s1.toks) fun b o e => Heap.get?_push_of_some _ e, turn_tuple a _, ⟨_, Heap.get?_push_size _ rfl, rfl, rfl⟩, fp, q _ (fun H4 => SqT X.K H4 a xs) walk_tup fun H4 _ e => e hq⟩
/-! ### is_reason -/
def intOf : PyData → Int
  | .int n => n
  | _ => 0
def intL (os : List PyData) : List Int := os.map intOf
def zs (ks : List Nat) : List Int := ks.map fun (k : Nat) => (k : Int)
theorem zs_len (ks : List Nat) : (zs ks).length = ks.length := List.length_map ..
theorem nats_zs (ks : List Nat) : nats ks = (zs ks).map V.int := nats_int ks
theorem mem_zs {ks : List Nat} {n : Int} : n ∈ zs ks ↔ ∃ k ∈ ks, (k : Int) = n := List.mem_map
def okOther (oz ks : List Int) : PyData → Bool
  | .int n => decide (n ∈ oz) || decide (n ∈ ks)
  | _ => false
theorem ok_isI {oz ks : List Int} {d : PyData} (h : okOther oz ks d = true) : d = .int (intOf d) := by
  cases d <;> first | rfl | cases h
def reasonB (rs : List Row) (ks : List Int) (k : Int) (os : List PyData) : Bool :=
  decide (k ∈ zs (inn rs)) && (!decide (k ∈ ks) && (os.all (okOther (zs (outs rs)) ks) && (ascB (intL os) && decide (k ∈ zs (long (mem (intL os ++ zs (outs rs))) rs)))))
def pairB (rs : List Row) (ks : List Int) : List PyData → Bool
  | [d0, d1] => isI d0 && (match items d1 with
    | some os => reasonB rs ks (intOf d0) os
    | none => false)
  | _ => false
def isReasonB (rs : List Row) (ks : List Int) (d : PyData) : Bool := match items d with
  | some ds => pairB rs ks ds
  | none => false
def fitR (d : PyData) : Prop := ∀ ds, items d = some ds → ∀ o ∈ ds, ∀ os, items o = some os → os.length ≤ 900
theorem mapD_is (g : Nat → V) (n : Int) : ∀ ks : List Nat, (valV (mapD g ks) (Sum.inl n)).isSome = decide (n ∈ zs ks)
  | [] => rfl
  | j :: ks => by
    show (valV ((Sum.inl (j : Int), g j) :: mapD g ks) _).isSome = _
    by_cases h : (j : Int) = n
    · subst h
      rw [valV_pos rfl]
      have : (j : Int) ∈ zs (j :: ks) := List.mem_map.mpr ⟨j, by simp, rfl⟩
      rw [decide_eq_true this]
      rfl
    · have hk : ¬ ((Sum.inl (j : Int) : Key) = Sum.inl n) := fun z => h (Sum.inl.inj z)
      rw [valV_neg hk, mapD_is g n ks]
      have : n ∈ zs (j :: ks) ↔ n ∈ zs ks := by
        constructor
        · intro z
          rcases List.mem_cons.mp z with z | z
          · exact absurd z.symm h
          · exact z
        · intro z
          exact List.mem_cons_of_mem _ z
      by_cases c : n ∈ zs ks
      · rw [decide_eq_true c, decide_eq_true (this.mpr c)]
      · rw [decide_eq_false c, decide_eq_false fun z => c (this.mp z)]
theorem dps_get {K : PySem.W.Frag} {H : Hp} : ∀ {vs : List V} {ds : List PyData}, DpAll K H vs ds → ∀ {i : Nat} {v : V}, vs[i]? = some v → ∃ d, ds[i]? = some d ∧ Dp K H v d
  | _, _, .nil, i, v, h => by simp at h
  | _, _, .cons g t, 0, v, e => by
    obtain rfl : _ = v := Option.some.inj e
    exact ⟨_, rfl, g⟩
  | _, _, .cons g t, i + 1, v, e => dps_get t (i := i) e
theorem dp_int {K : PySem.W.Frag} {H : Hp} {v : V} {n : Int} (h : Dp K H v (.int n)) : v = .int n := by
  cases h
  rfl
theorem dps_all {K : PySem.W.Frag} {H : Hp} {oz ks : List Int} : ∀ {vs : List V} {ds : List PyData}, DpAll K H vs ds → ds.all (okOther oz ks) = true → vs = (intL ds).map V.int
  | _, _, .nil, _ => rfl
  | _, _, .cons (d := d) g t, h => by
    rw [List.all_cons, Bool.and_eq_true] at h
    rw [ok_isI h.1] at g
    rw [dp_int g, dps_all t h.2]
    rfl
abbrev tOthers (K : PySem.W.Frag) : TE := tAndV (tCall (spIsInt K) [] E00 (tCons (tVar 5) tNil)) (tOrV (tOp (rIn K false) (tVar 5) (tFld K (tVar 0) "outs")) (tOp (rIn K false) (tVar 5) (tVar 2)))
def spIsReason (K : PySem.W.Frag) (C : Addr) : Sp := fun vs H Q _ => ∃ (x e : Addr) (v : V) (d : PyData) (rs : List Row) (ks : List Int), vs = [.ref x, v, .ref e] ∧ DraftV K H C x rs ∧ Th K H v d ∧ fitR d ∧ SqL K H e (ks.map V.int) ∧ ks.length ≤ 900 ∧ ∀ H', Same H H' → Q (.bl (isReasonB rs ks d)) H'
abbrev sIsReason : Stmt := mth 17
theorem scIsReason : FnScope ["self", "thing", "earlier", "index", "others", "other"] ["self", "thing", "earlier"] (defScope sIsReason) := ⟨rfl, rfl, rfl, by decide +kernel, rfl, by decide +kernel, by decide +kernel⟩
section
variable {P : Program} {w : World} {K : PySem.W.Frag} {mg : Str → Option Value} {base : Heap}
theorem ok_isReason {f C : Addr} {fd : FuncData} (F : Fun K "is_reason" "Draft.is_reason" sIsReason f fd) (T : Bi mg) (B : DrC K C) (G1 : Has P w K mg base CX0 3 "is_row_of" ["thing", "many"] (spIsRowOf K)) (G2 : Has P w K mg base CX0 3 "is_integer" ["thing"] (spIsInt K)) (G3 : Has P w K mg base CX0 3 "is_row" ["thing"] (spIsRow K))
    (G4 : Has P w K mg base CX0 3 "is_ascending" ["row"] (spAsc K)) (G5 : Has P w K mg base CX0 3 "too_long_ones" ["parts", "aims", "far"] (spTooLong K)) : FnOk P w K mg base CX0 4 f fd ["self", "thing", "earlier"] (spIsReason K C) := by
  refine F.ok scIsReason (fun vs H Q E h => ?_) (fun cdv A outer s H vs Q E hr h => ?_)
  · obtain ⟨x, e, v, d, rs, ks, rfl, _⟩ := h
    rfl
  · obtain ⟨x, e, v, d, rs, ks, rfl, hdr, th, fit, he, hk, q⟩ := h
    obtain ⟨ok, dx, p, fq, dd, o, ys0, hx⟩ := id hdr
    have hu := hu_of hr
    refine ⟨_, (pss_cons (ps_if (PW.pt (pw_or (pt_not (pt_val (pe_callH G1 hr (by rfl) pass0 (pa_cons (pv 1) (pa_cons pe_int pa_nil))))) (pw_or (pt_not (pt_val (pe_callH G2 hr (by rfl) pass0 (pa_cons (pe_ix ix_seq (pv 1) pe_int (fun _ _ => rfl)) pa_nil)))) (pw_or1 (pt_not (pt_val (pe_callH G3 hr (by rfl) pass0 (pa_cons (pe_ix ix_seq (pv 1) pe_int (fun _ _ => rfl)) pa_nil)))))))) (pss_one (ps_ret pe_bl)) pss_nil)
      (pss_cons (ps_asg (pv 1) (pg_seq rfl (pgs_cons (pg_name (i := 3) scIsReason.nd rfl (.inl rfl)) (pgs_cons (pg_name (i := 4) scIsReason.nd rfl (.inl rfl)) pgs_nil))))
      (pss_cons (ps_if (PW.pt (pw_or (pt_cmp (pc_dnotin hu (pv 3) (pe_fld (pv 0) rfl))) (pw_or1 (pt_cmpR op_in_seq (pv 3) (pv 2) (by rfl))))) (pss_one (ps_ret pe_bl)) pss_nil)
      (pss_cons (ps_if (pt_not (pt_val (pe_callB (cr_all rfl) (by rfl) T.all (by decide +kernel) (pa_cons (pe_lc (own := [("other", 5)]) (g := gName 5) (tt := tYes) (te := tOthers K) rfl scIsReason.nd (pi_seq (pv 4)) (blkOk_by (N := ["self", "thing", "earlier", "index", "others", "other"]) (sc := defScope sIsReason) (by decide +kernel)) (fun _ _ _ _ _ => pg_name (i := 5) scIsReason.nd rfl (.inl rfl)) (fun _ _ _ _ _ => pts_nil)
          (fun _ _ _ _ _ => pe_and (pe_callH G2 hr (by rfl) pass0 (pa_cons (pv 5) pa_nil)) (pe_one (pe_or (pe_cmpR op_in_seq (pv 5) (pe_fld (pv 0) rfl) (by rfl)) (pe_one (pe_cmpR op_in_seq (pv 5) (pv 2) (by rfl))))))) pa_nil)))) (pss_one (ps_ret pe_bl)) pss_nil)
      (pss_one (ps_ret (pe_and (pe_callH G4 hr (by rfl) pass0 (pa_cons (pv 4) pa_nil)) (pe_one (pe_cmpR op_in_seq (pv 3) (pe_callH G5 hr (by rfl) pass0 (pa_cons (pe_fld (pv 0) rfl) (pa_cons (pe_fld (pv 0) rfl) (pa_cons (pe_op op_cat (pe_callTy call_list_of (by rfl) T.list (by decide +kernel) (pa_cons (pv 4) pa_nil)) (pe_callTy call_list_of (by rfl) T.list (by decide +kernel) (pa_cons (pe_fld (pv 0) rfl) pa_nil))) pa_nil)))) (by rfl)))))))))), ?_⟩
    refine ⟨_, rfl, v, d, 2, rfl, th, fun H1 s1 => ⟨_, rfl, ?_⟩⟩
    have no : isRof d 2 = false → isReasonB rs ks d = false := fun z => by
      unfold isRof at z
      unfold isReasonB
      cases e : items d with
      | none => rfl
      | some ds =>
        rw [e] at z
        match ds, z with
        | [], _ => rfl
        | [a], _ => rfl
        | [a, b], z => simp at z
        | a :: b :: c :: t, _ => rfl
    cases c1 : isRof d 2 with
    | false =>
      have := q H1 s1
      rw [no c1] at this
      exact iteT (iteT this)
    | true =>
    obtain ⟨ds, hds, hl⟩ : ∃ ds, items d = some ds ∧ ds.length = 2 := by
      unfold isRof at c1
      cases e : items d with
      | none => rw [e] at c1; cases c1
      | some ds =>
        rw [e] at c1
        have := of_decide_eq_true c1
        exact ⟨ds, rfl, by omega⟩
    obtain ⟨d0, d1, rfl⟩ : ∃ d0 d1, ds = [d0, d1] := by
      match ds, hl with
      | [a, b], _ => exact ⟨a, b, rfl⟩
    obtain ⟨a, xs, rfl, hs, ha⟩ := th_row (th_same s1 th) hds
    obtain ⟨v0, v1, rfl⟩ : ∃ v0 v1, xs = [v0, v1] := by
      have := dps_len ha
      match xs, this with
      | [a, b], _ => exact ⟨a, b, rfl⟩
    obtain ⟨h0, h1⟩ : Dp K H1 v0 d0 ∧ Dp K H1 v1 d1 := by
      cases ha with
      | cons g t =>
        cases t with
        | cons g2 t2 => exact ⟨g, g2⟩
    have ixs : ∀ {H2 : Hp} {i : Nat} {z : V} {R : VK}, Same H1 H2 → ([v0, v1] : List V)[i]? = some z → R z H2 → rIx K (.ref a) (.int (i : Nat)) H2 R := fun {H2 i z R} s2 hz r => by
      rcases hs with hs | hs
      · exact .inl ⟨a, _, _, _, rfl, rfl, sqL_same s2 hs, at_of hz, r⟩
      · exact .inr (.inl ⟨a, _, _, _, rfl, rfl, sqT_same s2 hs, at_of hz, r⟩)
    refine iteF ⟨_, rfl, ixs (i := 0) (Same.refl H1) rfl ⟨v0, d0, rfl, .dat h0, _, rfl, ?_⟩⟩
    have er : isReasonB rs ks d = (isI d0 && (match items d1 with
      | some os => reasonB rs ks (intOf d0) os
      | none => false)) := by
      unfold isReasonB
      rw [hds]
      rfl
    rw [er] at q
    cases d0 with
    | int k =>
      obtain rfl := dp_int h0
      refine iteF ⟨_, rfl, ixs (i := 1) (Same.refl H1) rfl ⟨v1, d1, rfl, .dat h1, fun H2 s2 => ⟨_, rfl, ?_⟩⟩⟩
      rw [isR_items]
      cases hos : items d1 with
      | none =>
        have := q H2 (s1.trans s2)
        rw [hos] at this
        exact iteT this
      | some os =>
      have q' : ∀ H', Same H H' → Q (.bl (reasonB rs ks k os)) H' := fun H' s => by
        have := q H' s
        rw [hos] at this
        exact this
      obtain ⟨a1, zz, rfl, hz, hza⟩ := th_row (.dat (dp_same s2 h1)) hos
      have lz := dps_len hza
      have fo : os.length ≤ 900 := fit _ hds d1 (by simp) os hos
      refine iteF ⟨_, rfl, a, _, rfl, hs.imp (sqL_same s2) (sqT_same s2), rfl, _, _, rfl, _, _, rfl, rfl, ?_⟩
      have s12 := s1.trans s2
      have hx2 := hx.same s12
      have he2 := sqL_same s12 he
      refine ⟨_, rfl, _, rfl, x, C, dx, _, _, rfl, hx2.ins, B.cl, B.n3, rfl, dd, _, rfl, DGet.k (k := Sum.inl k) hx2.aims, _, rfl, ?_⟩
      have ek : (valV (aimD rs) (Sum.inl k)).isSome = decide (k ∈ zs (inn rs)) := mapD_is _ _ _
      rw [ek]
      unfold reasonB at q'
      cases c2 : decide (k ∈ zs (inn rs)) with
      | false =>
        rw [c2] at q'
        exact iteT (iteT (q' H2 s12))
      | true =>
      rw [c2] at q'
      refine iteF ⟨_, rfl, _, rfl, e, _, rfl, .inl he2, rfl, flat_ints ks, _, rfl, ?_⟩
      show if (inV (.int k) (ks.map V.int)) = true then _ else _
      rw [inV_ints]
      cases c3 : decide (k ∈ ks) with
      | true =>
        rw [c3] at q'
        exact iteT (q' H2 s12)
      | false =>
      rw [c3] at q'
      have hz2 : SqE K H2 a1 zz := hz
      refine iteF ⟨_, rfl, a1, zz, rfl, hz, fun J G wk hG D hD => ?_⟩
      have os2 : ∀ {Hn : Hp}, (∀ b u, b ≠ D → H2 b = some u → Hn b = some u) → Same H2 Hn := fun kp b u e => kp b u (ne_of_none e hD) e
      refine lc_it wk (fun i Hn => (∀ b u, b ≠ D → H2 b = some u → Hn b = some u) ∧ Hn D = some (.lst (((os.take i).map (okOther (zs (outs rs)) ks)).map V.bl))) ⟨fun b u hb e => by rw [upd_ne hb]; exact e, upd_same⟩
        (fun i Hn _ ⟨kp, _⟩ => hG Hn (sqL_same (os2 kp)) (sqT_same (os2 kp))) ?_ ?_
      · rintro i y Hn Hn' hi ⟨kp, hDn⟩ ⟨rfl, hy⟩
        have sn := os2 kp
        obtain ⟨di, hdi, hdp⟩ := dps_get hza hy
        have hlt : i < os.length := (List.getElem?_eq_some_iff.mp hdi).1
        have fin : ∀ b, okOther (zs (outs rs)) ks di = b → ∃ acc, Hn' D = some (.lst acc) ∧ acc.length < sizeLine ∧ ((∀ c u, c ≠ D → H2 c = some u → upd Hn' D (.lst (acc ++ [V.bl b])) c = some u) ∧ upd Hn' D (.lst (acc ++ [V.bl b])) D = some (.lst (((os.take (i + 1)).map (okOther (zs (outs rs)) ks)).map V.bl))) := by
          intro b hb
          refine ⟨_, hDn, ?_, fun c u hc e => ?_, ?_⟩
          · rw [List.length_map, List.length_map, List.length_take]
            exact small1000 (by omega)
          · rw [upd_ne hc]
            exact kp c u hc e
          · rw [upd_same, List.take_add_one, hdi, List.map_append, List.map_append]
            show _ = some (HO.lst (_ ++ [V.bl (okOther (zs (outs rs)) ks di)]))
            rw [hb]
        refine ⟨rfl, yes_go (iteT ⟨_, rfl, y, di, rfl, .dat (dp_same sn hdp), _, rfl, ?_⟩)⟩
        cases di with
        | int n =>
          obtain rfl := dp_int hdp
          have hxn := hx2.same sn
          have hen := sqL_same sn he2
          refine iteT ⟨_, rfl, _, rfl, x, C, dx, _, _, rfl, hxn.ins, B.cl, B.n4, rfl, o, _, rfl, .inr hxn.outs, rfl, (by rw [nats_zs]; exact flat_ints _), _, rfl, ?_⟩
          show if (inV (.int n) (nats (outs rs))) = true then _ else _
          rw [nats_zs, inV_ints]
          cases c4 : decide (n ∈ zs (outs rs)) with
          | true => exact iteT (fin true (by show (decide _ || _) = true; rw [c4]; rfl))
          | false =>
            refine iteF ⟨_, rfl, _, rfl, e, _, rfl, .inl hen, rfl, flat_ints ks, ?_⟩
            show ∃ acc, _
            have z := fin (decide (n ∈ ks)) (by show (decide _ || _) = _; rw [c4]; rfl)
            have e5 : (if false = true then !inV (V.int n) (ks.map V.int) else inV (V.int n) (ks.map V.int)) = decide (n ∈ ks) := inV_ints _ _
            rw [e5]
            exact z
        | none => exact iteF (fin false rfl)
        | bool b => exact iteF (fin false rfl)
        | str b => exact iteF (fin false rfl)
        | list b => exact iteF (fin false rfl)
        | tuple b => exact iteF (fin false rfl)
        | dict b => exact iteF (fin false rfl)
      · rintro H3 ⟨kp, hD3⟩
        have s23 := os2 kp
        rw [lz, List.take_length] at hD3
        refine ⟨D, _, rfl, SqL.of hD3, _, rfl, ?_⟩
        have ea : (os.map (okOther (zs (outs rs)) ks)).all id = os.all (okOther (zs (outs rs)) ks) := by
          rw [List.all_map]
          rfl
        rw [ea]
        have s3 := s12.trans s23
        cases c5 : os.all (okOther (zs (outs rs)) ks) with
        | false =>
          rw [c5] at q'
          exact iteT (q' H3 s3)
        | true =>
        rw [c5] at q'
        have ez : zz = (intL os).map V.int := dps_all hza c5
        have li : (intL os).length = os.length := List.length_map ..
        have hz3 : SqE K H3 a1 ((intL os).map V.int) := by
          rw [← ez]
          exact sqE_same s23 hz2
        refine iteF ⟨_, rfl, a1, intL os, rfl, hz3, by omega, fun H4 s4 => ⟨_, rfl, ?_⟩⟩
        cases c6 : ascB (intL os) with
        | false =>
          rw [c6] at q'
          exact iteF (q' H4 (s3.trans s4))
        | true =>
        rw [c6] at q'
        have s04 := s3.trans s4
        have hx4 := hx.same s04
        have hz4 := sqE_same s4 hz3
        refine iteT ⟨_, rfl, _, rfl, x, C, dx, _, _, rfl, hx4.ins, B.cl, B.n1, rfl, _, rfl, x, C, dx, _, _, rfl, hx4.ins, B.cl, B.n3, rfl, _, rfl, a1, _, rfl, hz4, fun l1 hl1 => ?_⟩
        have s5 := s04.trans (same_new (o := .lst ((intL os).map V.int)) hl1)
        have hx5 := hx.same s5
        refine ⟨_, rfl, x, C, dx, _, _, rfl, hx5.ins, B.cl, B.n4, rfl, o, _, rfl, .inr hx5.outs, fun l2 hl2 => ?_⟩
        have s6 := s5.trans (same_new (o := .lst (nats (outs rs))) hl2)
        have l12 : l1 ≠ l2 := ne_of_none upd_same hl2
        refine ⟨l1, l2, _, _, rfl, rfl, by rw [upd_ne l12]; exact upd_same, upd_same, ?_, fun l3 hl3 => ?_⟩
        · rw [nats_len, List.length_map]
          have h1 : (outs rs).length ≤ (brs rs).length := List.length_filter_le _ _
          have h2 := brsTo_len rs rs.length
          have h3 : (brs rs).length = (brsTo rs rs.length).length := rfl
          have ol := ok.len
          have : (intL os).length + (outs rs).length ≤ 2000 := by omega
          exact Nat.le_trans this (by decide)
        have s7 := s6.trans (same_new (o := .lst ((intL os).map V.int ++ nats (outs rs))) hl3)
        have hx7 := hx.same s7
        have okR : ∀ r ∈ rs, RowOk r := fun r hr => fine_ok (ok.fine r hr)
        refine ⟨p, dd, l3, ys0, rs, intL os ++ zs (outs rs), rfl, hx7.parts, rowsP_V hx7.rows, okR, ok.len, hx7.aims, SqL.of (by rw [upd_same, nats_zs, List.map_append]), fun H8 lL s8 _ hlL => ?_⟩
        refine ⟨lL, _, rfl, .inl (SqL.of hlL), rfl, (by rw [nats_zs]; exact flat_ints _), ?_⟩
        have e5 : (if false = true then !inV (V.int k) (nats (long (mem (intL os ++ zs (outs rs))) rs)) else inV (V.int k) (nats (long (mem (intL os ++ zs (outs rs))) rs))) = decide (k ∈ zs (long (mem (intL os ++ zs (outs rs))) rs)) := by
          rw [nats_zs]
          exact inV_ints _ _
        rw [e5]
        exact q' H8 (s7.trans s8)
    | none => exact iteT (iteT (q H1 s1))
    | bool b => exact iteT (iteT (q H1 s1))
    | str z => exact iteT (iteT (q H1 s1))
    | list l => exact iteT (iteT (q H1 s1))
    | tuple l => exact iteT (iteT (q H1 s1))
    | dict l => exact iteT (iteT (q H1 s1))
end

def kOf (d : PyData) : Int := match items d with
  | some (d0 :: _) => intOf d0
  | _ => 0
def areL (rs : List Row) : List Int → List PyData → Bool
  | _, [] => true
  | ks, d :: ds => isReasonB rs ks d && areL rs (ks ++ [kOf d]) ds
def areB (rs : List Row) (d : PyData) : Bool := match items d with
  | some ds => areL rs [] ds
  | none => false
def fitT (d : PyData) : Prop := ∀ ds, items d = some ds → ds.length ≤ 900 ∧ ∀ z ∈ ds, fitR z
theorem isReason_pair {rs : List Row} {ks : List Int} {d : PyData} (h : isReasonB rs ks d = true) : ∃ k o os, items d = some [.int k, o] ∧ items o = some os ∧ reasonB rs ks k os = true ∧ kOf d = k := by
  unfold isReasonB at h
  cases e : items d with
  | none => rw [e] at h; cases h
  | some ds =>
    rw [e] at h
    have h' : pairB rs ks ds = true := h
    unfold pairB at h'
    split at h'
    · rename_i d0 d1
      rw [Bool.and_eq_true] at h'
      obtain ⟨h1, h2⟩ := h'
      cases d0 with
      | int k =>
        cases e2 : items d1 with
        | none => rw [e2] at h2; cases h2
        | some os =>
          rw [e2] at h2
          refine ⟨k, d1, os, rfl, e2, h2, ?_⟩
          unfold kOf
          rw [e]
          rfl
      | _ => cases h1
    · cases h'
def spAreReasons (K : PySem.W.Frag) (C CE : Addr) : Sp := fun vs H Q E => ∃ (x : Addr) (v : V) (rs : List Row), vs = [.ref x, v] ∧ DraftV K H C x rs ∧
  ((noEven rs ∧ ∃ d, Th K H v d ∧ fitT d ∧ ∀ H', Same H H' → Q (.bl (areB rs d)) H') ∨ ∃ i, firstEv rs i ∧ EvE CE i H E)
abbrev sAreReasons : Stmt := mth 18
theorem scAreReasons : FnScope ["self", "thing", "earlier", "one"] ["self", "thing"] (defScope sAreReasons) := ⟨rfl, rfl, rfl, by decide +kernel, rfl, by decide +kernel, by decide +kernel⟩
theorem sqT_kp {K : PySem.W.Frag} {H H' : Hp} {a e : Addr} {xs : List V} {o : HO} (kp : ∀ b u, b ≠ e → H b = some u → H' b = some u) (he : H e = some o) (ho : notTup o) (h : SqT K H a xs) : SqT K H' a xs := by
  rcases h with (h | ⟨t, h⟩) | h
  · refine .inl (.inl (kp _ _ (fun z => ?_) h))
    rw [z, he] at h
    cases h
    exact ho
  · refine .inl (.inr ⟨t, kp _ _ (fun z => ?_) h⟩)
    rw [z, he] at h
    cases h
    exact ho
  · exact .inr h
theorem sqL_kp {K : PySem.W.Frag} {H H' : Hp} {a e : Addr} {xs ys : List V} (kp : ∀ b u, b ≠ e → H b = some u → H' b = some u) (he : H e = some (.lst [])) (he' : H' e = some (.lst ys)) (hy : ys.length ≤ xs.length) (h : SqL K H a xs) : SqL K H' a xs := by
  by_cases c : a = e
  · subst c
    rcases h with (h | ⟨t, h⟩) | h
    · rw [he] at h
      cases h
      have : ys = [] := List.length_eq_zero_iff.mp (Nat.le_zero.mp hy)
      subst this
      exact SqL.of he'
    · rw [he] at h
      cases h
    · exact .inr h
  · rcases h with (h | ⟨t, h⟩) | h
    · exact .inl (.inl (kp _ _ c h))
    · exact .inl (.inr ⟨t, kp _ _ c h⟩)
    · exact .inr h
section
variable {P : Program} {w : World} {K : PySem.W.Frag} {mg : Str → Option Value} {base : Heap}
theorem ok_areReasons {f C CE : Addr} {fd : FuncData} (F : Fun K "are_reasons" "Draft.are_reasons" sAreReasons f fd) (T : Bi mg) (B : DrC K C) (G1 : HasM P w K mg base (L2.CX P w) 4 C "check_even" ["self"] (spCheckEven K C CE))
    (G2 : Has P w K mg base CX0 4 "is_row" ["thing"] (spIsRow K)) (G3 : HasM P w K mg base CX0 4 C "is_reason" ["self", "thing", "earlier"] (spIsReason K C)) : FnOk P w K mg base (L2.CX P w) 5 f fd ["self", "thing"] (spAreReasons K C CE) := by
  refine F.okX scAreReasons (fun vs H Q E h => ?_) (fun cdv A outer s H vs Q E hr h => ?_)
  · obtain ⟨x, v, rs, rfl, _⟩ := h
    rfl
  · obtain ⟨x, v, rs, rfl, hdr, want⟩ := h
    refine ⟨_, (pss_cons (ps_expr (pe_methH0 G1 (pv 0) hr (passes_call (W := fun cls d _ H => E cls d H) (takes_of rfl rfl rfl rfl) (fun _ _ _ _ h => h))))
      (pss_cons (ps_if (pt_not (pt_val (pe_callH G2 hr (by rfl) pass0 (pa_cons (pv 1) pa_nil)))) (pss_one (ps_ret pe_bl)) pss_nil)
      (pss_cons (ps_set (i := 2) scAreReasons.nd rfl (.inl rfl) (pe_lst pa_nil))
      (pss_cons (ps_for (passes_of rfl) rfl (pi_seq (pv 1)) (pg_name (i := 3) scAreReasons.nd rfl (.inl rfl))
        (pss_cons (ps_if (pt_not (pt_val (pe_methH G3 (pv 0) hr pass0 (pa_cons (pv 3) (pa_cons (pv 2) pa_nil))))) (pss_one (ps_ret pe_bl)) pss_nil)
        (pss_one (ps_expr (pe_bm PySem.F.plainAttrs_list PySem.F.slot_list_append PySem.F.type_list_append mt_append (pv 2) (pa_cons (pe_ix ix_seq (pv 3) pe_int (fun _ _ => rfl)) pa_nil))))))
      (pss_one (ps_ret pe_bl)))))), ?_⟩
    obtain ⟨ok, dx, p, fq, dd, o, ys0, hx⟩ := id hdr
    refine ⟨_, rfl, x, dx, _, rfl, hx.ins, rfl, x, rs, rfl, hdr, ?_⟩
    rcases want with ⟨nE, d, th, fit, qq⟩ | ⟨i, hi, hE⟩
    · refine .inl ⟨nE, fun H1 s1 => ?_⟩
      refine ⟨_, rfl, v, d, rfl, th_same s1 th, fun H2 s2 => ⟨_, rfl, ?_⟩⟩
      have s02 := s1.trans s2
      rw [isR_items]
      unfold areB at qq
      cases e : items d with
      | none =>
        rw [e] at qq
        exact iteT (qq H2 s02)
      | some ds =>
      rw [e] at qq
      have qq : ∀ H', Same H H' → Q (.bl (areL rs [] ds)) H' := qq
      obtain ⟨f1, f2⟩ := fit ds e
      refine iteF ⟨Nat.zero_le _, fun eL heL => ?_⟩
      have s03 := s02.trans (same_new (o := .lst []) heL)
      have heN : H eL = none := by
        cases e : H eL with
        | none => rfl
        | some u => rw [s02 _ _ e] at heL; cases heL
      obtain ⟨a, xs, rfl, hs, ha⟩ := th_row th e
      generalize hH3 : upd H2 eL (.lst []) = H3 at s03
      have heL3 : H3 eL = some (.lst []) := by rw [← hH3]; exact upd_same
      have lx := dps_len ha
      refine ⟨_, rfl, a, xs, rfl, hs.imp (sqL_same s03) (sqT_same s03), fun J G wk hG => ?_⟩
      refine for_it wk (fun i σ H4 => ∃ u : Option V, σ = [some (.ref x), some (.ref a), some (.ref eL), u] ∧ (∀ b o, b ≠ eL → H3 b = some o → H4 b = some o) ∧ ∃ ks : List Int, H4 eL = some (.lst (ks.map V.int)) ∧ ks.length = i ∧ areL rs [] ds = areL rs ks (ds.drop i))
        ⟨none, rfl, fun _ _ _ h => h, [], heL3, rfl, rfl⟩ ?_ ?_ ?_
      · rintro i σ H4 hi ⟨_, _, kp, ks, h4, hk, _⟩
        refine hG H4 (fun h => sqL_kp kp heL3 h4 (by rw [List.length_map]; omega) h) fun h => sqT_kp kp heL3 trivial h
      · rintro i y σ H4 H4' hi ⟨u, rfl, kp, ks, h4, hk, hr⟩ ⟨rfl, hy⟩
        have s4 : Same H H4' := fun b o e => kp b o (ne_of_none e heN) (s03 _ _ e)
        obtain ⟨di, hdi, hdp⟩ := dps_get ha hy
        have hlt : i < ds.length := (List.getElem?_eq_some_iff.mp hdi).1
        have hdr : ds.drop i = di :: ds.drop (i + 1) := by
          rw [List.drop_eq_getElem_cons hlt]
          congr 1
          exact Option.some.inj (by rw [← hdi, List.getElem?_eq_getElem hlt])
        rw [hdr] at hr
        have hr' : areL rs [] ds = (isReasonB rs ks di && areL rs (ks ++ [kOf di]) (ds.drop (i + 1))) := hr
        refine ⟨_, rfl, x, dx, _, rfl, (hx.same s4).ins, rfl, _, rfl, _, rfl, x, eL, y, di, rs, ks, rfl, ?_, .dat (dp_same s4 hdp), f2 di (List.mem_of_getElem? hdi), SqL.of h4, by omega, fun H5 s5 => ⟨_, rfl, ?_⟩⟩
        · exact ⟨ok, _, _, _, _, _, _, hx.same s4⟩
        have s05 := s4.trans s5
        have z := qq H5 s05
        rw [hr'] at z
        cases c : isReasonB rs ks di with
        | false =>
          rw [c] at z
          exact iteT z
        | true =>
        rw [c] at hr'
        obtain ⟨k, o2, os, e1, e2, e3, e4⟩ := isReason_pair c
        obtain ⟨a2, xs2, rfl, hs2, ha2⟩ := th_row (.dat (dp_same s05 hdp)) e1
        have hv0 : xs2[0]? = some (.int k) := by
          cases ha2 with
          | cons g t => rw [dp_int g]; rfl
        have h5 := s5 _ _ h4
        have ixs : ∀ {R : VK}, R (.int k) H5 → rIx K (.ref a2) (.int (0 : Nat)) H5 R := fun {R} r => by
          rcases hs2 with hs2 | hs2
          · exact .inl ⟨a2, _, _, _, rfl, rfl, hs2, at_of hv0, r⟩
          · exact .inr (.inl ⟨a2, _, _, _, rfl, rfl, hs2, at_of hv0, r⟩)
        refine iteF ⟨_, rfl, .inl ⟨rfl, _, SqL.of h5⟩, _, rfl, ixs ⟨eL, _, _, rfl, rfl, h5, ?_, _, rfl, fun b o hb e => ?_, ks ++ [k], ?_, ?_, ?_⟩⟩
        · rw [List.length_map]
          exact small1000 (by omega)
        · rw [upd_ne hb]
          exact s5 _ _ (kp b o hb e)
        · rw [upd_same, List.map_append]
          rfl
        · rw [List.length_append, hk]
          rfl
        · rw [hr', e4]
          rfl
      · rintro σ H4 ⟨u, rfl, kp, ks, h4, hk, hr⟩
        rw [lx, List.drop_length] at hr
        have s4 : Same H H4 := fun b o e => kp b o (ne_of_none e heN) (s03 _ _ e)
        have z := qq H4 s4
        rw [hr] at z
        exact z
    · exact .inr ⟨i, hi, hE⟩
end

def spRoom (K : PySem.W.Frag) (C CE : Addr) : Sp := fun vs H Q E => ∃ (x : Addr) (v : V) (rs : List Row), vs = [.ref x, v] ∧ DraftV K H C x rs ∧ ∃ i, firstEv rs i ∧ EvE CE i H E
abbrev sRoom : Stmt := mth 20
theorem scRoom : FnScope ["self", "at", "far", "offsets", "left", "index", "aim"] ["self", "at"] (defScope sRoom) := ⟨rfl, rfl, rfl, by decide +kernel, rfl, by decide +kernel, by decide +kernel⟩
section
variable {P : Program} {w : World} {K : PySem.W.Frag} {mg : Str → Option Value} {base : Heap}
theorem ok_room {f C CE : Addr} {fd : FuncData} (F : Fun K "room" "Draft.room" sRoom f fd) (T : Bi mg) (B : DrC K C) (G1 : HasM P w K mg base (L2.CX P w) 4 C "check_even" ["self"] (spCheckEven K C CE)) : FnOk P w K mg base (L2.CX P w) 5 f fd ["self", "at"] (spRoom K C CE) := by
  refine F.okX scRoom (fun vs H Q E h => ?_) (fun cdv A outer s H vs Q E hr h => ?_)
  · obtain ⟨x, v, rs, rfl, _⟩ := h
    rfl
  · obtain ⟨x, v, rs, rfl, hdr, i, hi, hE⟩ := h
    refine ⟨_, (pss_cons (ps_expr (pe_methH0 G1 (pv 0) hr (passes_call (W := fun cls d _ H => E cls d H) (takes_of rfl rfl rfl rfl) (fun _ _ _ _ h => h))))
      (pss_cons ps_never (pss_cons ps_never (pss_cons ps_never (pss_cons ps_never (pss_cons ps_never (pss_one ps_never))))))), ?_⟩
    obtain ⟨ok, dx, p, fq, dd, o, ys0, hx⟩ := id hdr
    exact ⟨_, rfl, x, dx, _, rfl, hx.ins, rfl, x, rs, rfl, hdr, .inr ⟨i, hi, hE⟩⟩
end

abbrev sLCell : Stmt := topS 40
abbrev sLRow : Stmt := topS 39
theorem scLCell : FnScope ["script", "k"] ["script", "k"] (defScope sLCell) := ⟨rfl, rfl, rfl, by decide +kernel, rfl, by decide +kernel, by decide +kernel⟩
theorem scLRow : FnScope ["cell", "sizes", "out", "size", "seed", "k", "mixed"] ["cell", "sizes"] (defScope sLRow) := ⟨rfl, rfl, rfl, by decide +kernel, rfl, by decide +kernel, by decide +kernel⟩
def spLCell (K : PySem.W.Frag) : Sp := fun vs H Q _ => ∃ (l : Addr) (ns : List Int) (j : Nat), vs = [.ref l, .int (j : Int)] ∧ SqL K H l (ns.map V.int) ∧ ∀ n : Int, Q (.int n) H
/-- drawn: one number below each of the sizes -/
def Drawn (sz out : List Int) : Prop := out.length = sz.length ∧ ∀ (i : Nat) (z : Int), sz[i]? = some z → ∃ d : Int, out[i]? = some d ∧ 0 ≤ d ∧ d < z
def SizesOk (sz : List Int) : Prop := sz.length ≤ 900 ∧ ∀ z ∈ sz, 0 < z ∧ z < 1000
def spLRow (K : PySem.W.Frag) : Sp := fun vs H Q _ => ∃ (n : Int) (l : Addr) (sz : List Int), vs = [.int n, .ref l] ∧ SqL K H l (sz.map V.int) ∧ SizesOk sz ∧ ∀ H' p out, Same H H' → H p = none → H' p = some (.lst (out.map V.int)) → Drawn sz out → Q (.ref p) H'
theorem drawn_step {sz out : List Int} {i : Nat} {z d : Int} (h : Drawn (sz.take i) out) (hz : sz[i]? = some z) (h0 : 0 ≤ d) (h1 : d < z) : Drawn (sz.take (i + 1)) (out ++ [d]) := by
  have hi : i < sz.length := (List.getElem?_eq_some_iff.mp hz).1
  have e : sz.take (i + 1) = sz.take i ++ [z] := by
    rw [List.take_add_one, hz]
    rfl
  rw [e]
  obtain ⟨h2, h3⟩ := h
  refine ⟨by rw [List.length_append, List.length_append, h2]; rfl, fun j y hy => ?_⟩
  by_cases c : j < (sz.take i).length
  · rw [List.getElem?_append_left c] at hy
    rw [List.getElem?_append_left (by omega)]
    exact h3 j y hy
  · rw [List.getElem?_append_right (by omega)] at hy
    rw [List.getElem?_append_right (by omega), h2]
    cases hj : j - (sz.take i).length with
    | zero =>
      rw [hj] at hy
      cases hy
      exact ⟨d, rfl, h0, h1⟩
    | succ m =>
      rw [hj] at hy
      cases hy
section
variable {P : Program} {w : World} {K : PySem.W.Frag} {mg : Str → Option Value} {base : Heap}
theorem ok_lcell {f : Addr} {fd : FuncData} (F : Fun K "_law_cell" "_law_cell" sLCell f fd) (T : Bi mg) : FnOk P w K mg base CX0 1 f fd ["script", "k"] (spLCell K) := by
  refine F.ok scLCell (fun vs H Q E h => ?_) (fun cdv A outer s H vs Q E hr h => ?_)
  · obtain ⟨l, ns, j, rfl, _⟩ := h
    rfl
  · obtain ⟨l, ns, j, rfl, hs, q⟩ := h
    refine ⟨_, (pss_one (ps_ret (pe_ifExp (pt_cmpR op_lt (pv 1) (pe_callB call_len_seq (by rfl) T.len (by decide +kernel) (pa_cons (pv 0) pa_nil)) (nomark _)) (pe_ix ix_list (pv 0) (pv 1) (fun _ _ => rfl)) pe_int))), ?_⟩
    refine ⟨_, rfl, _, rfl, l, _, rfl, .inl hs, _, _, rfl, rfl, _, rfl, ?_⟩
    by_cases hj : j < ns.length
    · have e : decide ((j : Int) < ((ns.map V.int).length : Int)) = true := by
        rw [List.length_map]
        exact decide_eq_true (by omega)
      rw [e]
      exact iteT ⟨_, rfl, _, rfl, l, _, _, .int ns[j], rfl, rfl, hs, at_of (by rw [List.getElem?_map, List.getElem?_eq_getElem hj]; rfl), q _⟩
    · have e : decide ((j : Int) < ((ns.map V.int).length : Int)) = false := by
        rw [List.length_map]
        exact decide_eq_false (by omega)
      rw [e]
      exact iteF (q 0)
theorem pw5 {b z : Int} (h0 : 0 ≤ b) (h1 : b < 2147483647) (h2 : 0 ≤ z) (h3 : z ≤ 100001) : CPow (b + 7919 * z + 104729) 5 := ⟨by decide, by decide, by omega⟩
theorem ok_lrow {f : Addr} {fd : FuncData} (F : Fun K "_law_row" "_law_row" sLRow f fd) (T : Bi mg) : FnOk P w K mg base CX0 1 f fd ["cell", "sizes"] (spLRow K) := by
  refine F.ok scLRow (fun vs H Q E h => ?_) (fun cdv A outer s H vs Q E hr h => ?_)
  · obtain ⟨n, l, sz, rfl, _⟩ := h
    rfl
  · obtain ⟨n, l, sz, rfl, hs, ⟨hl, hz⟩, q⟩ := h
    refine ⟨_, (pss_cons (ps_set (i := 2) scLRow.nd rfl (.inl rfl) (pe_lst pa_nil))
      (pss_cons (ps_if (pt_cmpR op_ge (pv 0) (pe_op op_pow pe_int pe_int) (nomark _)) (pss_cons (ps_for PassesOwn.never rfl (pi_list (pv 1)) (pg_name (i := 3) scLRow.nd rfl (.inl rfl)) (pss_cons (ps_expr (pe_bm PySem.F.plainAttrs_list PySem.F.slot_list_append PySem.F.type_list_append mt_append (pv 2) (pa_cons (pe_op op_mod (pe_callTy call_int1 (by rfl) T.int (by decide +kernel) (pa_cons (pv 0) pa_nil)) (pv 3)) pa_nil)))
        (pss_one (ps_set (i := 0) scLRow.nd rfl (.inl rfl) (pe_op op_fdivN (pv 0) (pv 3))))))
        (pss_one (ps_ret (pv 2)))) pss_nil)
      (pss_cons (ps_set (i := 4) scLRow.nd rfl (.inl rfl) (pe_op op_mod (pe_callTy call_int1 (by rfl) T.int (by decide +kernel) (pa_cons (pv 0) pa_nil)) pe_int))
      (pss_cons (ps_for PassesOwn.never rfl (pi_range1 (by rfl) T.range (pa_cons (pe_callB call_len_seq (by rfl) T.len (by decide +kernel) (pa_cons (pv 1) pa_nil)) pa_nil)) (pg_name (i := 5) scLRow.nd rfl (.inl rfl)) (pss_cons (ps_set (i := 6) scLRow.nd rfl (.inl rfl) (pe_op op_add (pe_op op_mod (pe_callTy call_int1 (by rfl) T.int (by decide +kernel) (pa_cons (pe_op op_pow (pe_op op_add (pe_op op_add (pv 4) (pe_op op_mul pe_int (pv 5))) pe_int) pe_int) pa_nil)) pe_int) (pv 5)))
        (pss_one (ps_expr (pe_bm PySem.F.plainAttrs_list PySem.F.slot_list_append PySem.F.type_list_append mt_append (pv 2) (pa_cons (pe_op op_mod (pe_callTy call_int1 (by rfl) T.int (by decide +kernel) (pa_cons (pe_op op_mod (pe_callTy call_int1 (by rfl) T.int (by decide +kernel) (pa_cons (pe_op op_mul (pv 6) pe_int) pa_nil)) pe_int) pa_nil)) (pe_ix ix_list (pv 1) (pv 5) (fun _ _ => rfl))) pa_nil))))))
      (pss_one (ps_ret (pv 2))))))), ?_⟩
    refine ⟨Nat.zero_le _, fun p hp => ?_⟩
    have s1 := same_new (o := .lst []) hp
    have hpl : p ≠ l ∨ True := .inr trivial
    refine ⟨_, rfl, _, _, rfl, rfl, ⟨by decide, by decide, by decide⟩, _, _, rfl, rfl, _, rfl, ?_⟩
    have szat : ∀ {i : Nat} {v : V}, (sz.map V.int)[i]? = some v → ∃ z, sz[i]? = some z ∧ v = .int z ∧ 0 < z ∧ z < 1000 := by
      intro i v hv
      rw [List.getElem?_map] at hv
      cases e : sz[i]? with
      | none => rw [e] at hv; cases hv
      | some z =>
        rw [e] at hv
        have := hz z (List.mem_of_getElem? e)
        exact ⟨z, rfl, (Option.some.inj hv).symm, this⟩
    have kpS : ∀ {H4 : Hp}, (∀ b o, b ≠ p → H b = some o → H4 b = some o) → Same H H4 := fun kp b o e => kp b o (ne_of_none e hp) e
    refine ite2 (fun c => ?_) (fun c => ?_)
    · refine ⟨_, rfl, l, rfl, ⟨_, sqL_same s1 hs⟩, ?_⟩
      refine for_it walk_list (fun i σ H4 => ∃ (n' : Int) (u : Option V) (out : List Int), σ = [some (.int n'), some (.ref l), some (.ref p), u, none, none, none] ∧ (∀ b o, b ≠ p → H b = some o → H4 b = some o) ∧ H4 p = some (.lst (out.map V.int)) ∧ Drawn (sz.take i) out)
        ⟨n, none, [], rfl, fun b o hb e => by rw [upd_ne hb]; exact e, upd_same, ⟨rfl, fun i z h => by simp at h⟩⟩ (fun i σ H4 _ ⟨_, _, _, _, kp, _⟩ => sqL_same (kpS kp) hs) ?_ ?_
      · rintro i y σ H4 H4' hi ⟨n', u, out, rfl, kp, h4, hd⟩ ⟨rfl, hy⟩
        obtain ⟨z, ez, rfl, z0, z1⟩ := szat hy
        have hlt : i < sz.length := (List.getElem?_eq_some_iff.mp ez).1
        have ol : out.length = i := by
          rw [hd.1, List.length_take]
          omega
        refine ⟨_, rfl, .inl ⟨rfl, _, SqL.of h4⟩, _, rfl, .inl ⟨_, rfl, _, rfl, _, _, rfl, rfl, z0, p, _, _, rfl, rfl, h4, ?_, ?_⟩⟩
        · rw [List.length_map]
          exact small1000 (by omega)
        refine ⟨_, rfl, _, rfl, _, _, rfl, rfl, ⟨by omega, by omega⟩, _, _, _, rfl, fun b o hb e => ?_, ?_, drawn_step (d := n' % z) hd ez (Int.emod_nonneg _ (by omega)) (Int.emod_lt_of_pos _ z0)⟩
        · rw [upd_ne hb]
          exact kp b o hb e
        · rw [upd_same, List.map_append]
          rfl
      · rintro σ H4 ⟨n', u, out, rfl, kp, h4, hd⟩
        rw [List.length_map, List.take_length] at hd
        exact ⟨_, rfl, q H4 p out (kpS kp) hp h4 hd⟩
    · refine ⟨_, rfl, .inl ⟨_, rfl, _, _, rfl, rfl, (by show (0 : Int) < 2147483647; decide), ?_⟩⟩
      refine ⟨_, rfl, l, _, rfl, .inl (sqL_same s1 hs), ?_⟩
      have es : ((sz.map V.int).length : Int).toNat = sz.length := by
        rw [List.length_map]
        exact Int.toNat_natCast _
      refine ⟨_, rfl, ?_, ?_, ?_⟩
      · omega
      · rw [List.length_map]
        omega
      rw [es]
      have m0 : 0 ≤ n % 2147483647 := Int.emod_nonneg _ (by decide)
      have m1 : n % 2147483647 < 2147483647 := Int.emod_lt_of_pos _ (by decide)
      refine for_it walk_range (fun i σ H4 => ∃ (u v : Option V) (out : List Int), σ = [some (.int n), some (.ref l), some (.ref p), none, some (.int (n % 2147483647)), u, v] ∧ (∀ b o, b ≠ p → H b = some o → H4 b = some o) ∧ H4 p = some (.lst (out.map V.int)) ∧ Drawn (sz.take i) out)
        ⟨none, none, [], rfl, fun b o hb e => by rw [upd_ne hb]; exact e, upd_same, ⟨rfl, fun i z h => by simp at h⟩⟩ (fun _ _ _ _ _ => trivial) ?_ ?_
      · rintro i y σ H4 H4' hi ⟨u, v, out, rfl, kp, h4, hd⟩ ⟨rfl, rfl⟩
        have hz1 : (sz.map V.int)[i]? = some (.int sz[i]) := by
          rw [List.getElem?_map, List.getElem?_eq_getElem hi]
          rfl
        obtain ⟨z0, z1⟩ := hz sz[i] (List.getElem_mem hi)
        have ol : out.length = i := by
          rw [hd.1, List.length_take]
          omega
        refine ⟨_, rfl, _, rfl, _, _, rfl, rfl, .inl ⟨by decide, by decide⟩, _, _, rfl, rfl, _, _, rfl, rfl, _, _, rfl, rfl, pw5 m0 m1 (by omega) (by omega), .inl ⟨_, rfl, _, _, rfl, rfl, (by show (0 : Int) < 2147483647; decide), _, rfl, _, _, rfl, rfl, ?_⟩⟩
        refine ⟨_, rfl, .inl ⟨rfl, _, SqL.of h4⟩, _, rfl, _, _, rfl, rfl, .inr ⟨by decide, by decide⟩, .inl ⟨_, rfl, _, _, rfl, rfl, (by show (0 : Int) < 2147483629; decide), .inl ⟨_, rfl, _, rfl, _, rfl, l, _, _, .int sz[i], rfl, congrArg V.int (Int.zero_add _), sqL_same (kpS kp) hs, at_of hz1, _, _, rfl, rfl, z0, p, _, _, rfl, rfl, h4, ?_, _, _, _, rfl, fun b o hb e => ?_, ?_, drawn_step (d := ((n % 2147483647 + 7919 * (0 + (i : Int)) + 104729) ^ (5 : Int).toNat % 2147483647 + (0 + (i : Int))) * 40692 % 2147483629 % sz[i]) hd (List.getElem?_eq_getElem hi) (Int.emod_nonneg _ (by omega)) (Int.emod_lt_of_pos _ z0)⟩⟩⟩
        · rw [List.length_map]
          exact small1000 (by omega)
        · rw [upd_ne hb]
          exact kp b o hb e
        · rw [upd_same, List.map_append]
          rfl
      · rintro σ H4 ⟨u, v, out, rfl, kp, h4, hd⟩
        rw [List.take_length] at hd
        exact ⟨_, rfl, q H4 p out (kpS kp) hp h4 hd⟩
end

/-! ### what drafts are drawn -/
def labs4 : List Str := ["la", "lb", "lc", "ld"]
def nmL : List Str := ["la", "lb", "lc", "ld", "away"]
def RowG : Row → Prop
  | .words n => n ≤ 255
  | .label s => s ∈ labs4
  | .even n => 1 ≤ n ∧ n ≤ 64
  | .branch c n m => c ∈ nearL ∧ n ∈ nmL ∧ (m ≠ 0 → n = "away")
structure DraftG (rs : List Row) : Prop where
  rows : ∀ r ∈ rs, RowG r
  nod : (rs.filterMap labR).Nodup
  len : rs.length ≤ 20
theorem labs4_nm : ∀ s ∈ labs4, isNmS s = true ∧ s.length ≤ 1000 ∧ s ≠ "away" := by decide +kernel
theorem nmL_nm : ∀ s ∈ nmL, isNmS s = true ∧ s.length ≤ 1000 := by decide +kernel
theorem labR_some {r : Row} {s : Str} (h : labR r = some s) : r = .label s := by
  cases r <;> cases h
  rfl
theorem labOf_some {rs : List Row} {i : Nat} {s : Str} (h : labOf rs i = some s) : rs[i]? = some (.label s) := by
  cases e : rs[i]? with
  | none =>
    unfold labOf at h
    rw [e] at h
    cases h
  | some r =>
    rw [labOf_at e] at h
    rw [labR_some h]
theorem G_ok {rs : List Row} (h : DraftG rs) : DrOk rs := by
  refine ⟨fun r hr => ?_, by have := h.len; omega, fun i s hi j hj hjs => ?_, fun k c n m hk hm j hj => ?_⟩
  · have g := h.rows r hr
    cases r with
    | words n => exact (by have g' : n ≤ 255 := g; show n ≤ 900; omega)
    | label s =>
      obtain ⟨a, b, _⟩ := labs4_nm s g
      exact ⟨a, b⟩
    | even n => exact g
    | branch c n m =>
      obtain ⟨a, b⟩ := nmL_nm n g.2.1
      exact ⟨g.1, a, b⟩
  · have h1 := labOf_some hi
    have h2 := labOf_some hjs
    have l1 : i < rs.length := (List.getElem?_eq_some_iff.mp h1).1
    have pw := List.pairwise_filterMap.mp h.nod
    have := List.pairwise_iff_getElem.mp pw j i (by omega) l1 hj
    have e1 : rs[i] = .label s := Option.some.inj (by rw [← List.getElem?_eq_getElem l1]; exact h1)
    have e2 : rs[j] = .label s := Option.some.inj (by rw [← List.getElem?_eq_getElem (by omega)]; exact h2)
    rw [e1, e2] at this
    exact this s rfl s rfl rfl
  · have g := h.rows _ (List.mem_of_getElem? hk)
    have e : n = "away" := g.2.2 hm
    have g2 := h.rows _ (List.mem_of_getElem? (labOf_some hj))
    exact (labs4_nm n g2).2.2 e
theorem G_ins {rs : List Row} {r : Row} (i : Nat) (h : DraftG rs) (hr : RowG r) (hl : rs.length < 20) (hn : ∀ s, labR r = some s → s ∉ rs.filterMap labR) : DraftG (rs.take i ++ [r] ++ rs.drop i) := by
  have pm : (rs.take i ++ [r] ++ rs.drop i).Perm (r :: rs) := by
    have : (rs.take i ++ [r] ++ rs.drop i).Perm ([r] ++ rs.take i ++ rs.drop i) := List.Perm.append_right _ List.perm_append_comm
    refine this.trans ?_
    rw [List.append_assoc, List.take_append_drop]
    exact List.Perm.refl _
  refine ⟨fun x hx => ?_, ?_, ?_⟩
  · rcases List.mem_cons.mp (pm.mem_iff.mp hx) with z | z
    · rw [z]; exact hr
    · exact h.rows x z
  · refine (pm.filterMap labR).nodup_iff.mpr ?_
    rw [List.filterMap_cons]
    cases e : labR r with
    | none => exact h.nod
    | some s => exact List.nodup_cons.mpr ⟨hn s e, h.nod⟩
  · rw [pm.length_eq, List.length_cons]
    omega
/-- which rows an inserted one stands among -/
theorem ins_perm {α : Type} (l : List α) (i : Nat) (x : α) : (l.take i ++ [x] ++ l.drop i).Perm (x :: l) := by
  have : (l.take i ++ [x] ++ l.drop i).Perm ([x] ++ l.take i ++ l.drop i) := List.Perm.append_right _ List.perm_append_comm
  refine this.trans ?_
  rw [List.append_assoc, List.take_append_drop]
  exact List.Perm.refl _
theorem rowsL_app {K : PySem.W.Frag} {H : Hp} : ∀ {xs ys : List V} {rs ts : List Row}, RowsL K H xs rs → RowsL K H ys ts → RowsL K H (xs ++ ys) (rs ++ ts)
  | _, _, _, _, .nil, h => h
  | _, _, _, _, .cons x t, h => .cons x (rowsL_app t h)
theorem rowsL_take {K : PySem.W.Frag} {H : Hp} : ∀ {xs : List V} {rs : List Row} (i : Nat), RowsL K H xs rs → RowsL K H (xs.take i) (rs.take i)
  | _, _, 0, _ => .nil
  | _, _, _ + 1, .nil => .nil
  | _, _, i + 1, .cons x t => .cons x (rowsL_take i t)
theorem rowsL_drop {K : PySem.W.Frag} {H : Hp} : ∀ {xs : List V} {rs : List Row} (i : Nat), RowsL K H xs rs → RowsL K H (xs.drop i) (rs.drop i)
  | _, _, 0, h => h
  | _, _, _ + 1, .nil => .nil
  | _, _, i + 1, .cons x t => rowsL_drop i t
theorem rowsL_ins {K : PySem.W.Frag} {H : Hp} {xs : List V} {rs : List Row} {v : V} {r : Row} (i : Nat) (h : RowsL K H xs rs) (hv : RowL K H v r) : RowsL K H (xs.take i ++ [v] ++ xs.drop i) (rs.take i ++ [r] ++ rs.drop i) :=
  rowsL_app (rowsL_app (rowsL_take i h) (.cons hv .nil)) (rowsL_drop i h)
/-! ### the sizes drawn -/
def szD : List Int := [8] ++ (List.replicate 10 [8, 12, 5, 3]).flatten ++ (List.replicate 4 [11]).flatten
theorem szD_ok : SizesOk szD := ⟨by decide, by decide⟩
theorem szD_at : ∀ k, k < 10 → szD[1 + 4 * k]? = some 8 ∧ szD[2 + 4 * k]? = some 12 ∧ szD[3 + 4 * k]? = some 5 ∧ szD[4 + 4 * k]? = some 3 := by decide
theorem szD_end : ∀ i, i < 4 → szD[41 + i]? = some 11 := by decide
theorem cut4 {out : List Int} {k : Nat} {a b c d : Int} (hl : out.length = 45) (hk : k < 10) (h1 : out[1 + 4 * k]? = some a) (h2 : out[2 + 4 * k]? = some b) (h3 : out[3 + 4 * k]? = some c) (h4 : out[4 + 4 * k]? = some d) :
    cutV (out.map V.int) (some (1 + 4 * (k : Int))) (some (5 + 4 * (k : Int))) = [.int a, .int b, .int c, .int d] := by
  have e1 : HT.sIx (out.map V.int).length 0 (some (1 + 4 * (k : Int))) = 1 + 4 * k := by
    rw [List.length_map, hl]
    unfold HT.sIx
    dsimp only
    rw [if_neg (by omega)]
    omega
  have e2 : HT.sIx (out.map V.int).length (out.map V.int).length (some (5 + 4 * (k : Int))) = 5 + 4 * k := by
    rw [List.length_map, hl]
    unfold HT.sIx
    dsimp only
    rw [if_neg (by omega)]
    omega
  unfold cutV
  rw [e1, e2]
  have e3 : 5 + 4 * k - (1 + 4 * k) = 4 := by omega
  rw [e3]
  apply List.ext_getElem?
  intro i
  rw [List.getElem?_take, List.getElem?_drop, List.getElem?_map]
  match i with
  | 0 => simp [h1]
  | 1 => rw [if_pos (by omega), show 1 + 4 * k + 1 = 2 + 4 * k by omega, h2]; rfl
  | 2 => rw [if_pos (by omega), show 1 + 4 * k + 2 = 3 + 4 * k by omega, h3]; rfl
  | 3 => rw [if_pos (by omega), show 1 + 4 * k + 3 = 4 + 4 * k by omega, h4]; rfl
  | i + 4 => rw [if_neg (by omega)]; rfl
theorem at12 {d : Int} (h0 : 0 ≤ d) (h1 : d < 12) : ∃ w : Nat, w ≤ 255 ∧ atI ([0, 1, 2, 3, 40, 120, 127, 128, 250, 253, 254, 255].map V.int) d = some (.int (w : Int)) := by
  obtain ⟨n, rfl⟩ := Int.eq_ofNat_of_zero_le h0
  have hn : n < 12 := by omega
  have : ∀ n, n < 12 → ∃ w : Nat, w ≤ 255 ∧ ([0, 1, 2, 3, 40, 120, 127, 128, 250, 253, 254, 255] : List Int)[n]? = some (w : Int) := by
    intro n hn
    match n, hn with
    | 0, _ => exact ⟨0, by omega, rfl⟩
    | 1, _ => exact ⟨1, by omega, rfl⟩
    | 2, _ => exact ⟨2, by omega, rfl⟩
    | 3, _ => exact ⟨3, by omega, rfl⟩
    | 4, _ => exact ⟨40, by omega, rfl⟩
    | 5, _ => exact ⟨120, by omega, rfl⟩
    | 6, _ => exact ⟨127, by omega, rfl⟩
    | 7, _ => exact ⟨128, by omega, rfl⟩
    | 8, _ => exact ⟨250, by omega, rfl⟩
    | 9, _ => exact ⟨253, by omega, rfl⟩
    | 10, _ => exact ⟨254, by omega, rfl⟩
    | 11, _ => exact ⟨255, by omega, rfl⟩
  obtain ⟨w, hw, e⟩ := this n hn
  exact ⟨w, hw, at_of (by rw [List.getElem?_map, e]; rfl)⟩
theorem atStr {ss : List Str} {d : Int} (h0 : 0 ≤ d) (h1 : d < (ss.length : Int)) : ∃ s ∈ ss, atI (ss.map V.str) d = some (.str s) := by
  obtain ⟨n, rfl⟩ := Int.eq_ofNat_of_zero_le h0
  have hn : n < ss.length := by omega
  exact ⟨ss[n], List.getElem_mem hn, at_of (by rw [List.getElem?_map, List.getElem?_eq_getElem hn]; rfl)⟩

def RowN : Row → Prop
  | .words n => n ≤ 255
  | .branch c n m => c ∈ nearL ∧ n ∈ nmL ∧ (m ≠ 0 → n = "away")
  | _ => False
theorem N_G {rs : List Row} (h : ∀ r ∈ rs, RowN r) (hl : rs.length ≤ 20) : DraftG rs ∧ rs.filterMap labR = [] ∧ noEven rs := by
  have e : rs.filterMap labR = [] := by
    rw [List.filterMap_eq_nil_iff]
    intro r hr
    have := h r hr
    cases r with
    | words n => rfl
    | branch c n m => rfl
    | _ => exact absurd this id
  refine ⟨⟨fun r hr => ?_, by rw [e]; exact List.nodup_nil, hl⟩, e, fun i => ?_⟩
  · have := h r hr
    cases r with
    | words n => exact this
    | branch c n m => exact this
    | _ => exact absurd this id
  · unfold isEv
    split
    · rename_i n z
      exact absurd (h _ (List.mem_of_getElem? z)) id
    · rfl
def isEvR : Row → Bool
  | .even _ => true
  | _ => false
theorem noEven_iff {rs : List Row} : noEven rs ↔ ∀ r ∈ rs, isEvR r = false := by
  constructor
  · intro h r hr
    obtain ⟨i, hi⟩ := List.getElem?_of_mem hr
    have := h i
    unfold isEv at this
    rw [hi] at this
    cases r <;> first | rfl | cases this
  · intro h i
    unfold isEv
    split
    · rename_i n e
      have := h _ (List.mem_of_getElem? e)
      cases this
    · rfl
theorem els1 {b : Bool} {S A C : Prop} (c : C) (h : b = true → C → S) : if b = true then S else (if false = true then A else C) := by
  cases b with
  | true => exact h rfl c
  | false => exact c
abbrev sLDraft : Stmt := topS 42
abbrev NLD : List Str := ["cell", "most", "is_even", "draws", "rows", "wide", "k", "kind", "size", "name", "called", "more", "at", "label"]
theorem scLDraft : FnScope NLD ["cell", "most", "is_even"] (defScope sLDraft) := ⟨rfl, rfl, rfl, by decide +kernel, rfl, by decide +kernel, by decide +kernel⟩
def spLDraft (K : PySem.W.Frag) : Sp := fun vs H Q _ => ∃ n : Int, vs = [.int n, .int 10, .bl false] ∧ ∀ H' p xs rs, Same H H' → H p = none → H' p = some (.lst xs) → RowsL K H' xs rs → DraftG rs → noEven rs → rs.length ≤ 13 → Q (.ref p) H'
theorem labs4_inj : ∀ i, i < 4 → ∀ j, j < i → labs4[j]? ≠ labs4[i]? := by decide +kernel
section
variable {P : Program} {w : World} {K : PySem.W.Frag} {mg : Str → Option Value} {base : Heap}
theorem ok_ldraft {f : Addr} {fd : FuncData} (F : Fun K "_law_draft" "_law_draft" sLDraft f fd) (T : Bi mg) (G : Has P w K mg base CX0 1 "_law_row" ["cell", "sizes"] (spLRow K)) : FnOk P w K mg base CX0 2 f fd ["cell", "most", "is_even"] (spLDraft K) := by
  refine F.ok scLDraft (fun vs H Q E h => ?_) (fun cdv A outer s H vs Q E hr h => ?_)
  · obtain ⟨n, rfl, _⟩ := h
    rfl
  · obtain ⟨n, rfl, q⟩ := h
    refine ⟨_, (pss_cons (ps_par3 rfl scLDraft.nd (i := 3) (j := 4) (l := 5) rfl rfl rfl (by decide) (by decide) (by decide) rfl rfl rfl (pa_cons (pe_callH G hr (by rfl) pass0 (pa_cons (pv 0) (pa_cons (pe_op op_cat (pe_op op_cat (pe_lst (pa_cons pe_int pa_nil)) (pe_op op_rep (pe_lst (pa_cons pe_int (pa_cons pe_int (pa_cons pe_int (pa_cons pe_int pa_nil))))) pe_int)) (pe_op op_rep (pe_lst (pa_cons pe_int pa_nil)) pe_int)) pa_nil))) (pa_cons (pe_lst pa_nil) (pa_cons pe_int pa_nil))) (by rfl))
      (pss_cons (ps_for PassesOwn.never rfl (pi_range1 (by rfl) T.range (pa_cons (pe_callB (call_min2 rfl) (by rfl) T.min (by decide +kernel) (pa_cons (pe_op op_add pe_int (pe_ix ix_list (pv 3) pe_int (fun _ _ => rfl))) (pa_cons (pv 1) pa_nil))) pa_nil)) (pg_name (i := 6) scLDraft.nd rfl (.inl rfl)) (pss_cons (ps_asg (pe_slice sl_list (pv 3) (po_some (pe_op op_add pe_int (pe_op op_mul pe_int (pv 6)))) (po_some (pe_op op_add pe_int (pe_op op_mul pe_int (pv 6))))) (pg_lst rfl (pgs_cons (pg_name (i := 7) scLDraft.nd rfl (.inl rfl)) (pgs_cons (pg_name (i := 8) scLDraft.nd rfl (.inl rfl)) (pgs_cons (pg_name (i := 9) scLDraft.nd rfl (.inl rfl)) (pgs_cons (pg_name (i := 10) scLDraft.nd rfl (.inl rfl)) pgs_nil))))))
        (pss_one (ps_if (PW.pt (pw_and (pt_cmpR op_lt (pv 7) pe_int (nomark _)) (pw_and1 (pt_cmpR op_lt (pv 5) pe_int (nomark _))))) (pss_cons (ps_set (i := 5) scLDraft.nd rfl (.inl rfl) (pe_op op_add (pv 5) pe_int))
          (pss_one (ps_expr (pe_bm PySem.F.plainAttrs_list PySem.F.slot_list_append PySem.F.type_list_append mt_append (pv 4) (pa_cons (pe_tup (pa_cons pe_str (pa_cons (pe_op op_rep (pe_lst (pa_cons (pv 6) pa_nil)) (pe_ix ix_list (pe_lst (pa_cons pe_int (pa_cons pe_int (pa_cons pe_int (pa_cons pe_int (pa_cons pe_int (pa_cons pe_int (pa_cons pe_int (pa_cons pe_int (pa_cons pe_int (pa_cons pe_int (pa_cons pe_int (pa_cons pe_int pa_nil))))))))))))) (pv 8) (fun _ _ => rfl))) pa_nil))) pa_nil))))) (pss_one (ps_if (PW.pt (pw_and (pt_cmpR op_eq (pv 7) pe_int (nomark _)) (pw_and1 (pt_val (pv 2))))) (pss_one ps_never) (pss_cons (ps_set (i := 11) scLDraft.nd rfl (.inl rfl) (pe_ifExp (pt_cmpR op_eq (pv 9) pe_int (nomark _)) (pe_ix ix_list (pe_lst (pa_cons pe_int (pa_cons pe_int (pa_cons (pe_un un_neg pe_int) pa_nil)))) (pv 10) (fun _ _ => rfl)) pe_int))
          (pss_one (ps_expr (pe_bm PySem.F.plainAttrs_list PySem.F.slot_list_append PySem.F.type_list_append mt_append (pv 4) (pa_cons (pe_tup (pa_cons pe_str (pa_cons (pe_ix ix_list (pe_lst (pa_cons pe_str (pa_cons pe_str (pa_cons pe_str pa_nil)))) (pv 10) (fun _ _ => rfl)) (pa_cons (pe_ix ix_list (pe_lst (pa_cons pe_str (pa_cons pe_str (pa_cons pe_str (pa_cons pe_str (pa_cons pe_str pa_nil)))))) (pv 9) (fun _ _ => rfl)) (pa_cons (pv 11) pa_nil))))) pa_nil)))))))))))
      (pss_cons (ps_for PassesOwn.never rfl (pi_zip (by rfl) T.zip (pa_cons (pe_slice sl_list (pv 3) (po_some pe_int) po_none) (pa_cons (pe_lst (pa_cons pe_str (pa_cons pe_str (pa_cons pe_str (pa_cons pe_str pa_nil))))) pa_nil))) (pg_tup rfl (pgs_cons (pg_name (i := 12) scLDraft.nd rfl (.inl rfl)) (pgs_cons (pg_name (i := 13) scLDraft.nd rfl (.inl rfl)) pgs_nil)))
        (pss_one (ps_expr (pe_bm PySem.F.plainAttrs_list PySem.F.slot_list_insert PySem.F.type_list_insert mt_insert (pv 4) (pa_cons (pe_op op_mod (pv 12) (pe_op op_add (pe_callB call_len_seq (by rfl) T.len (by decide +kernel) (pa_cons (pv 4) pa_nil)) pe_int)) (pa_cons (pe_tup (pa_cons pe_str (pa_cons (pv 13) pa_nil))) pa_nil))))))
      (pss_one (ps_ret (pv 4)))))), ?_⟩
    refine ⟨_, rfl, (by show 1 ≤ sizeLine; decide), fun p1 hp1 => ⟨(by show 4 ≤ sizeLine; decide), fun p2 hp2 => ?_⟩⟩
    have n12 : p1 ≠ p2 := ne_of_none upd_same hp2
    refine ⟨p2, 10, _, rfl, rfl, upd_same, by decide, by decide, (by show 4 * 10 ≤ sizeLine; decide), fun p3 hp3 => ?_⟩
    have n13 : p1 ≠ p3 := ne_of_none (by rw [upd_ne n12]; exact upd_same) hp3
    refine ⟨p1, p3, _, _, rfl, rfl, by rw [upd_ne n13, upd_ne n12]; exact upd_same, upd_same, (by show 41 ≤ sizeLine; decide), fun p4 hp4 => ⟨(by show 1 ≤ sizeLine; decide), fun p5 hp5 => ?_⟩⟩
    have n45 : p4 ≠ p5 := ne_of_none upd_same hp5
    refine ⟨p5, 4, _, rfl, rfl, upd_same, by decide, by decide, (by show 1 * 4 ≤ sizeLine; decide), fun p6 hp6 => ?_⟩
    have n46 : p4 ≠ p6 := ne_of_none (by rw [upd_ne n45]; exact upd_same) hp6
    refine ⟨p4, p6, _, _, rfl, rfl, by rw [upd_ne n46, upd_ne n45]; exact upd_same, upd_same, (by show 45 ≤ sizeLine; decide), fun p7 hp7 => ?_⟩
    have t1 := same_new (o := .lst [V.int 8]) hp1
    have t2 := t1.trans (same_new (o := .lst ([8, 12, 5, 3].map V.int)) hp2)
    have t3 := t2.trans (same_new (o := .lst (List.replicate 10 ([8, 12, 5, 3].map V.int)).flatten) hp3)
    have t4 := t3.trans (same_new (o := .lst ([V.int 8] ++ (List.replicate 10 ([8, 12, 5, 3].map V.int)).flatten)) hp4)
    have t5 := t4.trans (same_new (o := .lst [V.int 11]) hp5)
    have t6 := t5.trans (same_new (o := .lst (List.replicate 4 [V.int 11]).flatten) hp6)
    have t7 := t6.trans (same_new (o := .lst (szD.map V.int)) hp7)
    refine ⟨n, p7, szD, rfl, SqL.of (by rw [upd_same]; rfl), szD_ok, fun H1 D out s1 hDn hD1 dr => ⟨Nat.zero_le _, fun L hL => ⟨_, _, _, rfl, ?_⟩⟩⟩
    have t8 : Same H H1 := t7.trans s1
    have t9 := t8.trans (same_new (o := .lst []) hL)
    have hLn : H L = none := by
      cases e : H L with
      | none => rfl
      | some u => rw [t8 _ _ e] at hL; cases hL
    have nDL : D ≠ L := ne_of_none hD1 hL
    generalize hH0 : upd H1 L (.lst []) = H0 at t9
    have hD0 : H0 D = some (.lst (out.map V.int)) := by rw [← hH0, upd_ne nDL]; exact hD1
    have hL0 : H0 L = some (.lst []) := by rw [← hH0]; exact upd_same
    have ol : out.length = 45 := dr.1
    have at_out : ∀ {i : Nat} {z : Int}, szD[i]? = some z → ∃ d, out[i]? = some d ∧ 0 ≤ d ∧ d < z := fun {i z} h => dr.2 i z h
    obtain ⟨d0, e0, d0a, d0b⟩ := at_out (i := 0) (z := 8) rfl
    refine ⟨_, rfl, D, _, _, _, rfl, rfl, SqL.of hD0, at_of (i := 0) (by rw [List.getElem?_map, e0]; rfl), _, _, rfl, rfl, _, rfl, _, _, rfl, _, rfl, ?_⟩
    generalize hj : (if (10 : Int) < 2 + d0 then (10 : Int) else 2 + d0) = j
    have j1 : 0 ≤ j ∧ j ≤ 9 := by
      rw [← hj]
      split <;> omega
    refine ⟨by omega, by omega, ?_⟩
    obtain ⟨m, rfl⟩ := Int.eq_ofNat_of_zero_le j1.1
    rw [Int.toNat_natCast]
    have hm9 : m ≤ 9 := by omega
    refine for_it walk_range (fun i σ H4 => ∃ (w : Int) (a b c d e g : Option V) (xs : List V) (rs : List Row), σ = [some (.int n), some (.int 10), some (.bl false), some (.ref D), some (.ref L), some (.int w), a, b, c, d, e, g, none, none] ∧ (∀ b o, b ≠ L → H0 b = some o → H4 b = some o) ∧ H4 L = some (.lst xs) ∧ RowsL K (del H4 L) xs rs ∧ rs.length = i ∧ ∀ r ∈ rs, RowN r)
      ⟨0, none, none, none, none, none, none, [], [], rfl, fun _ _ _ h => h, hL0, .nil, rfl, fun r hr => by cases hr⟩ (fun _ _ _ _ _ => trivial) ?_ ?_
    · rintro i y σ H4 H4' hi ⟨wd, a, b, c, d, e, g, xs, rs, rfl, kp, hL4, hrs, hlen, hN⟩ ⟨rfl, hy⟩
      have hy' : y = .int (i : Int) := by
        rw [hy]
        exact congrArg V.int (Int.zero_add _)
      subst hy'
      obtain ⟨z1, z2, z3, z4⟩ := szD_at i (by omega)
      obtain ⟨k1, o1, k1a, k1b⟩ := at_out z1
      obtain ⟨k2, o2, k2a, k2b⟩ := at_out z2
      obtain ⟨k3, o3, k3a, k3b⟩ := at_out z3
      obtain ⟨k4, o4, k4a, k4b⟩ := at_out z4
      have hD4 := kp _ _ nDL hD0
      have xl : xs.length = i := by
        rw [rowsV_len (rowsL_V hrs)]
        exact hlen
      refine ⟨_, rfl, _, rfl, _, _, rfl, rfl, .inl ⟨by decide, by decide⟩, _, _, rfl, rfl, _, rfl, _, rfl, _, _, rfl, rfl, .inl ⟨by decide, by decide⟩, _, _, rfl, rfl, _, rfl, D, _, rfl, SqL.of hD4, fun ps hps => ?_⟩
      rw [cut4 ol (by omega) o1 o2 o3 o4]
      refine ⟨ps, _, rfl, SqL.of upd_same, rfl, _, _, rfl, _, _, rfl, _, _, rfl, _, _, rfl, rfl, ?_⟩
      have s5 := same_new (o := .lst [V.int k1, V.int k2, V.int k3, V.int k4]) hps
      generalize hH5 : upd H4' ps (.lst [V.int k1, V.int k2, V.int k3, V.int k4]) = H5 at s5
      have hL5 := s5 _ _ hL4
      -- what an append comes to
      have fin : ∀ {H9 : Hp} {v : V} {r : Row}, Same H5 H9 → RowL K (del H9 L) v r → RowN r → H9 L = some (.lst xs) ∧ xs.length < sizeLine ∧ ∀ (w : Int) (a b c d e g : Option V), (∃ (w' : Int) (a' b' c' d' e' g' : Option V) (xs' : List V) (rs' : List Row), ([some (.int n), some (.int 10), some (.bl false), some (.ref D), some (.ref L), some (.int w), a, b, c, d, e, g, none, none] : L2.St) = [some (.int n), some (.int 10), some (.bl false), some (.ref D), some (.ref L), some (.int w'), a', b', c', d', e', g', none, none] ∧ (∀ b o, b ≠ L → H0 b = some o → upd H9 L (.lst (xs ++ [v])) b = some o) ∧ upd H9 L (.lst (xs ++ [v])) L = some (.lst xs') ∧ RowsL K (del (upd H9 L (.lst (xs ++ [v]))) L) xs' rs' ∧ rs'.length = i + 1 ∧ ∀ r ∈ rs', RowN r) := by
        intro H9 v r s9 hr hn
        have s49 := s5.trans s9
        refine ⟨s9 _ _ hL5, small1000 (by omega), fun w a b c d e g => ⟨w, a, b, c, d, e, g, xs ++ [v], rs ++ [r], rfl, fun b o hb eb => ?_, upd_same, ?_, ?_, ?_⟩⟩
        · rw [upd_ne hb]
          exact s49 _ _ (kp b o hb eb)
        · rw [del_upd]
          exact rowsL_app (rowsL_same (del_same_of s49) hrs) (.cons hr .nil)
        · rw [List.length_append, hlen]
          rfl
        · intro x hx
          rcases List.mem_append.mp hx with h | h
          · exact hN x h
          · rw [List.mem_singleton.mp h]
            exact hn
      refine ⟨_, rfl, _, _, rfl, rfl, _, rfl, els1 ?c fun b1 C => ⟨_, rfl, _, _, rfl, rfl, _, rfl, ?_⟩⟩
      rotate_left
      · cases b2 : decide (wd < 6) with
        | false => exact iteF C
        | true =>
        obtain ⟨ww, hww, eww⟩ := at12 k2a k2b
        refine iteT ⟨_, rfl, _, _, rfl, rfl, _, rfl, .inl ⟨rfl, _, SqL.of hL5⟩, _, rfl, (by show 1 ≤ sizeLine; decide), fun p1 hp1 => ⟨(by show 12 ≤ sizeLine; decide), fun p2 hp2 => ?_⟩⟩
        have n12 : p1 ≠ p2 := ne_of_none upd_same hp2
        refine ⟨_, rfl, p2, _, _, _, rfl, rfl, SqL.of upd_same, eww, p1, ww, _, rfl, rfl, by rw [upd_ne n12]; exact upd_same, by omega, by omega, ?_, fun p3 hp3 => ⟨(by show 2 ≤ sizeLine; decide), fun p4 hp4 => ?_⟩⟩
        · show 1 * (ww : Int).toNat ≤ sizeLine
          rw [Int.toNat_natCast]
          have : 1 * ww ≤ 1000 := by omega
          exact Nat.le_trans this (by decide)
        have s8 := ((same_new (o := .lst [V.int (i : Int)]) hp1).trans (same_new (o := .lst ([0, 1, 2, 3, 40, 120, 127, 128, 250, 253, 254, 255].map V.int)) hp2)).trans (same_new (o := .lst (List.replicate (ww : Int).toNat [V.int (i : Int)]).flatten) hp3)
        have s9 := s8.trans (same_new (o := .tup [V.str "words", V.ref p3]) hp4)
        have l4 : L ≠ p4 := ne_of_none (s8 _ _ hL5) hp4
        have l3 : L ≠ p3 := ne_of_none (((same_new (o := .lst [V.int (i : Int)]) hp1).trans (same_new (o := .lst ([0, 1, 2, 3, 40, 120, 127, 128, 250, 253, 254, 255].map V.int)) hp2)) _ _ hL5) hp3
        have n34 : p3 ≠ p4 := ne_of_none upd_same hp4
        obtain ⟨f1, f2, f3⟩ := fin (r := .words ww) s9 ⟨p4, p3, List.replicate ww (i : Int), rfl, SqT.of (by rw [del_ne l4.symm]; exact upd_same), SqL.of (by
          rw [del_ne l3.symm, upd_ne n34, upd_same, Int.toNat_natCast]
          congr 2
          simp), List.length_replicate⟩ hww
        exact ⟨L, xs, _, rfl, rfl, f1, f2, f3 _ _ _ _ _ _ _⟩
      · refine ⟨_, rfl, rfl, _, rfl, els1 ?c2 fun b1 C => ⟨_, rfl, _, rfl, iteF C⟩⟩
        have hk4 : ∃ v : Int, atI [V.int 0, V.int 5, V.int (-3)] k4 = some (.int v) := by
          obtain ⟨t, rfl⟩ := Int.eq_ofNat_of_zero_le k4a
          match t, k4b with
          | 0, _ => exact ⟨0, rfl⟩
          | 1, _ => exact ⟨5, rfl⟩
          | 2, _ => exact ⟨-3, rfl⟩
          | t + 3, z => omega
        obtain ⟨mv, hmv⟩ := hk4
        obtain ⟨cs, hcs, ecs⟩ := atStr (ss := nearL) k4a k4b
        refine ⟨_, rfl, rfl, _, rfl, ?_⟩
        rw [intEq]
        cases c3 : decide (k3 = 4) with
        | true =>
          obtain rfl := of_decide_eq_true c3
          refine iteT ⟨_, rfl, (by show 3 ≤ sizeLine; decide), fun p1 hp1 => ⟨_, rfl, p1, _, _, _, rfl, rfl, SqL.of upd_same, hmv, ?_⟩⟩
          have s6 := same_new (o := .lst [V.int 0, V.int 5, V.int (-3)]) hp1
          generalize hH6 : upd H5 p1 (.lst [V.int 0, V.int 5, V.int (-3)]) = H6 at s6
          have hm : mv ≠ 0 → ("away" : Str) = "away" := fun _ => rfl
          have hnm : ("away" : Str) ∈ nmL := by decide +kernel
          have enm : atI (nmL.map V.str) 4 = some (.str "away") := at_of (i := 4) rfl
          refine ⟨_, rfl, .inl ⟨rfl, _, SqL.of (s6 _ _ hL5)⟩, (by show 3 ≤ sizeLine; decide), fun p2 hp2 => ⟨_, rfl, p2, _, _, _, rfl, rfl, SqL.of upd_same, ecs, (by show 5 ≤ sizeLine; decide), fun p3 hp3 => ⟨_, rfl, p3, _, _, _, rfl, rfl, SqL.of upd_same, enm, _, rfl, (by show 4 ≤ sizeLine; decide), fun p4 hp4 => ?_⟩⟩⟩
          have s9 := ((s6.trans (same_new (o := .lst (nearL.map V.str)) hp2)).trans (same_new (o := .lst (nmL.map V.str)) hp3)).trans (same_new (o := .tup [V.str "branch", V.str cs, V.str "away", V.int mv]) hp4)
          have l4 : L ≠ p4 := ne_of_none (((s6.trans (same_new (o := .lst (nearL.map V.str)) hp2)).trans (same_new (o := .lst (nmL.map V.str)) hp3)) _ _ hL5) hp4
          obtain ⟨f1, f2, f3⟩ := fin (r := .branch cs "away" mv) s9 ⟨p4, rfl, SqT.of (by rw [del_ne l4.symm]; exact upd_same)⟩ ⟨hcs, hnm, hm⟩
          exact ⟨L, xs, _, rfl, rfl, f1, f2, f3 _ _ _ _ _ _ _⟩
        | false =>
          obtain ⟨nm, hnm, enm⟩ := atStr (ss := nmL) k3a k3b
          refine iteF ?_
          have s6 := Same.refl H5
          have hm : (0 : Int) ≠ 0 → nm = "away" := fun z => absurd rfl z
          refine ⟨_, rfl, .inl ⟨rfl, _, SqL.of (s6 _ _ hL5)⟩, (by show 3 ≤ sizeLine; decide), fun p2 hp2 => ⟨_, rfl, p2, _, _, _, rfl, rfl, SqL.of upd_same, ecs, (by show 5 ≤ sizeLine; decide), fun p3 hp3 => ⟨_, rfl, p3, _, _, _, rfl, rfl, SqL.of upd_same, enm, _, rfl, (by show 4 ≤ sizeLine; decide), fun p4 hp4 => ?_⟩⟩⟩
          have s9 := ((s6.trans (same_new (o := .lst (nearL.map V.str)) hp2)).trans (same_new (o := .lst (nmL.map V.str)) hp3)).trans (same_new (o := .tup [V.str "branch", V.str cs, V.str nm, V.int 0]) hp4)
          have l4 : L ≠ p4 := ne_of_none (((s6.trans (same_new (o := .lst (nearL.map V.str)) hp2)).trans (same_new (o := .lst (nmL.map V.str)) hp3)) _ _ hL5) hp4
          obtain ⟨f1, f2, f3⟩ := fin (r := .branch cs nm 0) s9 ⟨p4, rfl, SqT.of (by rw [del_ne l4.symm]; exact upd_same)⟩ ⟨hcs, hnm, hm⟩
          exact ⟨L, xs, _, rfl, rfl, f1, f2, f3 _ _ _ _ _ _ _⟩
    · rintro σ H4 ⟨wd, a, b, c, d, e, g, xs, rs, rfl, kp, hL4, hrs, hlen, hN⟩
      have hD4 := kp _ _ nDL hD0
      have ec : cutV (out.map V.int) (some 41) none = (out.map V.int).drop 41 := cut_from (r := 41) (by rw [List.length_map, ol]; omega)
      refine ⟨_, rfl, 41, rfl, D, _, rfl, SqL.of hD4, fun pa hpa => ?_⟩
      rw [ec]
      refine ⟨(by show 4 ≤ sizeLine; decide), fun pb hpb => ?_⟩
      have nab : pa ≠ pb := ne_of_none upd_same hpb
      have s6 := (same_new (o := .lst ((out.map V.int).drop 41)) hpa).trans (same_new (o := .lst [V.str "la", V.str "lb", V.str "lc", V.str "ld"]) hpb)
      have la : L ≠ pa := ne_of_none hL4 hpa
      have lb : L ≠ pb := ne_of_none ((same_new (o := .lst ((out.map V.int).drop 41)) hpa) _ _ hL4) hpb
      have ha6 : upd (upd H4 pa (.lst ((out.map V.int).drop 41))) pb (.lst [V.str "la", V.str "lb", V.str "lc", V.str "ld"]) pa = some (.lst ((out.map V.int).drop 41)) := by rw [upd_ne nab]; exact upd_same
      have hb6 : upd (upd H4 pa (.lst ((out.map V.int).drop 41))) pb (.lst [V.str "la", V.str "lb", V.str "lc", V.str "ld"]) pb = some (.lst (labs4.map V.str)) := upd_same
      refine ⟨pa, pb, _, _, rfl, SqL.of ha6, SqL.of hb6, ?_⟩
      have hL6 := s6 _ _ hL4
      have hrs6 : RowsL K (del (upd (upd H4 pa (.lst ((out.map V.int).drop 41))) pb (.lst [V.str "la", V.str "lb", V.str "lc", V.str "ld"])) L) xs rs := rowsL_same (del_same_of s6) hrs
      have kp6 : ∀ b o, b ≠ L → H0 b = some o → upd (upd H4 pa (.lst ((out.map V.int).drop 41))) pb (.lst [V.str "la", V.str "lb", V.str "lc", V.str "ld"]) b = some o := fun b o hb eb => s6 _ _ (kp b o hb eb)
      generalize hH6 : upd (upd H4 pa (.lst ((out.map V.int).drop 41))) pb (.lst [V.str "la", V.str "lb", V.str "lc", V.str "ld"]) = H6 at *
      obtain ⟨G0, F0, E0⟩ := N_G hN (by omega)
      refine for_it (walk_zip (n := 4) (xs := (out.map V.int).drop 41) (ys := labs4.map V.str) (by rw [List.length_drop, List.length_map, ol]; rfl))
        (fun i σ H5 => ∃ (u v : Option V) (xs : List V) (rs : List Row), σ = [some (.int n), some (.int 10), some (.bl false), some (.ref D), some (.ref L), some (.int wd), a, b, c, d, e, g, u, v] ∧ (∀ b o, b ≠ L → H6 b = some o → H5 b = some o) ∧ H5 L = some (.lst xs) ∧ RowsL K (del H5 L) xs rs ∧ rs.length = m + i ∧ DraftG rs ∧ noEven rs ∧ ∀ s ∈ rs.filterMap labR, ∃ j, j < i ∧ labs4[j]? = some s)
        ⟨none, none, xs, rs, rfl, fun _ _ _ h => h, hL6, hrs6, by omega, G0, E0, fun s hs => by rw [F0] at hs; cases hs⟩ ?_ ?_ ?_
      · rintro i σ H5 _ ⟨u, v, xs, rs, _, kp5, _⟩
        exact ⟨SqL.of (kp5 _ _ la.symm ha6), SqL.of (kp5 _ _ lb.symm hb6)⟩
      · rintro i y σ H5 H5' hi ⟨u, v, xs, rs, rfl, kp5, hL5, hrs5, hlen5, hG5, hE5, hF5⟩ ⟨TT, x', y', rfl, hT, rfl, hx', hy'⟩
        have xl : xs.length = m + i := by
          rw [rowsV_len (rowsL_V hrs5)]
          exact hlen5
        obtain ⟨dv, od, dv0, dv1⟩ := at_out (szD_end i hi)
        have hx' : ((out.map V.int).drop 41)[i]? = some x' := hx'
        have hy' : (labs4.map V.str)[i]? = some y' := hy'
        obtain rfl : x' = .int dv := by
          rw [List.getElem?_drop, List.getElem?_map, od] at hx'
          exact (Option.some.inj hx').symm
        obtain ⟨sl, hsl, rfl⟩ : ∃ sl, labs4[i]? = some sl ∧ y' = .str sl := by
          rw [List.getElem?_map] at hy'
          cases es : labs4[i]? with
          | none => rw [es] at hy'; cases hy'
          | some sl =>
            rw [es] at hy'
            exact ⟨sl, rfl, (Option.some.inj hy').symm⟩
        have sT := same_new (o := .tup [V.int dv, V.str sl]) hT
        have hLT := sT _ _ hL5
        have pos : (0 : Int) < ((xs.length : Nat) : Int) + 1 := by omega
        refine ⟨TT, _, rfl, SqT.of upd_same, rfl, _, _, rfl, _, _, rfl, rfl, ?_⟩
        refine ⟨_, rfl, .inl ⟨rfl, _, SqL.of hLT⟩, _, rfl, _, rfl, L, _, rfl, .inl (SqL.of hLT), _, _, rfl, rfl, _, _, rfl, rfl, pos, _, rfl, (by show 2 ≤ sizeLine; decide), fun p4 hp4 => ?_⟩
        have s7 := sT.trans (same_new (o := .tup [V.str "label", V.str sl]) hp4)
        have l4 : L ≠ p4 := ne_of_none hLT hp4
        have i0 : 0 ≤ dv % (((xs.length : Nat) : Int) + 1) := Int.emod_nonneg _ (by omega)
        have i1 : dv % (((xs.length : Nat) : Int) + 1) < ((xs.length : Nat) : Int) + 1 := Int.emod_lt_of_pos _ pos
        refine ⟨L, xs, _, _, rfl, rfl, s7 _ _ hL5, small1000 (by omega), i0, by omega, ?_⟩
        generalize (dv % (((xs.length : Nat) : Int) + 1)).toNat = ix
        have pm := ins_perm rs ix (.label sl)
        have fm := pm.filterMap labR
        refine ⟨_, _, _, rs.take ix ++ [.label sl] ++ rs.drop ix, rfl, fun b o hb eb => ?_, upd_same, ?_, ?_, ?_, ?_, ?_⟩
        · rw [upd_ne hb]
          exact s7 _ _ (kp5 b o hb eb)
        · rw [del_upd]
          exact rowsL_ins ix (rowsL_same (del_same_of s7) hrs5) ⟨p4, rfl, SqT.of (by rw [del_ne l4.symm]; exact upd_same)⟩
        · rw [pm.length_eq, List.length_cons]
          omega
        · refine G_ins ix hG5 (List.mem_of_getElem? hsl) (by omega) fun s' hs' hm' => ?_
          cases hs'
          obtain ⟨j, hj, ej⟩ := hF5 _ hm'
          exact labs4_inj i hi j hj (ej.trans hsl.symm)
        · rw [noEven_iff] at hE5 ⊢
          intro r hr
          rcases List.mem_cons.mp (pm.mem_iff.mp hr) with z | z
          · rw [z]; rfl
          · exact hE5 r z
        · intro s' hs'
          have := fm.mem_iff.mp hs'
          rw [List.filterMap_cons] at this
          rcases List.mem_cons.mp this with z | z
          · exact ⟨i, by omega, by rw [z]; exact hsl⟩
          · obtain ⟨j, hj, ej⟩ := hF5 _ z
            exact ⟨j, by omega, ej⟩
      · rintro σ H5 ⟨u, v, xs, rs, rfl, kp5, hL5, hrs5, hlen5, hG5, hE5, _⟩
        refine ⟨_, rfl, q H5 L xs rs (fun bb o eb => ?_) hLn hL5 (rowsL_same del_sub hrs5) hG5 hE5 (by omega)⟩
        have nb : bb ≠ L := ne_of_none eb hLn
        exact kp5 bb o nb (kp6 bb o nb (t9 _ _ eb))
end

abbrev sLBr : Stmt := topS 43
abbrev sLSp : Stmt := topS 44
theorem scLBr : FnScope ["rows", "k", "row"] ["rows"] (defScope sLBr) := ⟨rfl, rfl, rfl, by decide +kernel, rfl, by decide +kernel, by decide +kernel⟩
theorem scLSp : FnScope ["rows", "k", "row"] ["rows"] (defScope sLSp) := ⟨rfl, rfl, rfl, by decide +kernel, rfl, by decide +kernel, by decide +kernel⟩
/-- the rows of a draft in a list -/
structure LRows (K : PySem.W.Frag) (H : Hp) (L : Addr) (xs : List V) (rs : List Row) : Prop where
  lst : SqL K H L xs
  rows : RowsV K H xs rs
  len : rs.length ≤ 900
theorem LRows.same {K : PySem.W.Frag} {H H' : Hp} {L : Addr} {xs : List V} {rs : List Row} (h : LRows K H L xs rs) (e : Same H H') : LRows K H' L xs rs := ⟨sqL_same e h.lst, rowsV_same e h.rows, h.len⟩
def spLBr (K : PySem.W.Frag) : Sp := fun vs H Q _ => ∃ (L : Addr) (xs : List V) (rs : List Row), vs = [.ref L] ∧ LRows K H L xs rs ∧ ∀ H' p, Same H H' → H p = none → H' p = some (.lst (nats (brs rs))) → Q (.ref p) H'
def spLSp (K : PySem.W.Frag) : Sp := fun vs H Q _ => ∃ (L : Addr) (xs : List V) (rs : List Row), vs = [.ref L] ∧ LRows K H L xs rs ∧ ∀ H' p, Same H H' → H p = none → H' p = some (.dK (spD rs rs.length)) → Q (.ref p) H'
theorem brsTo_s (rs : List Row) (i : Nat) : brsTo rs (i + 1) = brsTo rs i ++ (if isBr rs i = true then [i] else []) := by
  unfold brsTo
  rw [List.range_succ, List.filter_append]
  congr 1
  cases e : isBr rs i <;> simp [List.filter, e]
theorem isBr_k {rs : List Row} {i : Nat} {r : Row} (h : rs[i]? = some r) : isBr rs i = decide (kindOf r = ("branch" : Str)) := by
  unfold isBr
  rw [h, br_kind]
  cases r <;> rfl
def labK (rs : List Row) : Nat → List (Key × V)
  | 0 => []
  | i + 1 => labK rs i ++ (match labOf rs i with
    | some s => [(Sum.inr s, .int (i : Nat))]
    | none => [])
theorem merge_labK (rs : List Row) : ∀ i, mergeK [] (labK rs i) = spD rs i
  | 0 => rfl
  | i + 1 => by
    unfold labK spD mergeK
    rw [List.foldl_append]
    have := merge_labK rs i
    unfold mergeK at this
    rw [this]
    cases labOf rs i <;> rfl
theorem labK_len (rs : List Row) : ∀ i, (labK rs i).length ≤ i
  | 0 => Nat.le_refl _
  | i + 1 => by
    unfold labK
    have := labK_len rs i
    rw [List.length_append]
    cases labOf rs i <;> simp <;> omega
abbrev gE (K : PySem.W.Frag) (i j : Nat) : TG := gTup K 2 (gCons (gName i) (gCons (gName j) gNil))
section
variable {P : Program} {w : World} {K : PySem.W.Frag} {mg : Str → Option Value} {base : Heap}
theorem ok_lbr {f : Addr} {fd : FuncData} (F : Fun K "_law_branches" "_law_branches" sLBr f fd) (T : Bi mg) : FnOk P w K mg base CX0 1 f fd ["rows"] (spLBr K) := by
  refine F.ok scLBr (fun vs H Q E h => ?_) (fun cdv A outer s H vs Q E hr h => ?_)
  · obtain ⟨L, xs, rs, rfl, _⟩ := h
    rfl
  · obtain ⟨L, xs, rs, rfl, ⟨hL, hrs, hlen⟩, q⟩ := h
    refine ⟨_, (pss_one (ps_ret (pe_lc (own := [("k", 1), ("row", 2)]) (g := gE K 1 2) (tt := row0Is K 2 "branch") (te := tVar 1) rfl scLBr.nd (pi_enum (by rfl) T.enumerate (pa_cons (pv 0) pa_nil)) (blkOk_by (N := ["rows", "k", "row"]) (sc := defScope sLBr) (by decide +kernel)) (fun _ _ _ _ _ => (pg_tup rfl (pgs_cons (pg_name (i := 1) scLBr.nd rfl (.inl rfl) (.inr rfl)) (pgs_cons (pg_name (i := 2) scLBr.nd rfl (.inl rfl) (.inr rfl)) pgs_nil)))) (fun _ _ _ _ _ => pts_one (pt_cmpR op_eq (pe_ix ix_tup (pv 2) pe_int (fun _ _ => rfl)) pe_str (nomark _))) (fun _ _ _ _ _ => (pv 1))))), ?_⟩
    have lx := rowsV_len hrs
    refine ⟨_, rfl, L, xs, rfl, hL, fun D hD => ?_⟩
    refine lc_it walk_enum (fun i H4 => (∀ c o, c ≠ D → H c = some o → H4 c = some o) ∧ H4 D = some (.lst (nats (brsTo rs i)))) ⟨fun c o hc e => by rw [upd_ne hc]; exact e, upd_same⟩ (fun i H4 _ ⟨kp, _⟩ => sqL_same (fun c o e => kp c o (ne_of_none e hD) e) hL) ?_ ?_
    · rintro i x H4 H4' hi ⟨kp, hD4⟩ ⟨TT, x', y, rfl, hT, rfl, hx', hy⟩
      cases hx'
      have s4 : Same H H4 := fun c o e => kp c o (ne_of_none e hD) e
      have s5 : Same H4 (upd H4 TT (.tup [.int (i : Nat), y])) := same_new hT
      obtain ⟨r, hri, hrv⟩ := rowsV_get hrs hy
      obtain ⟨a, zs, rfl, ht, h0⟩ := rowV_tup (rowV_same (s4.trans s5) hrv)
      have eb := isBr_k hri
      refine ⟨TT, _, rfl, SqT.of upd_same, rfl, _, _, rfl, _, _, rfl, rfl, rfl, row0_is rfl ht h0 eb.symm ?_⟩
      have hD5 := s5 _ _ hD4
      have bl := brsTo_len rs i
      rw [brsTo_s]
      cases isBr rs i with
      | true =>
        refine iteT ⟨_, rfl, _, hD5, ?_, fun c o hc e => ?_, ?_⟩
        · rw [nats_len]
          exact small1000 (by omega)
        · rw [upd_ne hc]
          exact s5 _ _ (kp c o hc e)
        · rw [upd_same, if_pos rfl, nats_app]
          rfl
      | false =>
        refine iteF ⟨fun c o hc e => s5 _ _ (kp c o hc e), ?_⟩
        rw [if_neg (by decide), List.append_nil]
        exact hD5
    · rintro H4 ⟨kp, hD4⟩
      rw [lx] at hD4
      exact q H4 D (fun c o e => kp c o (ne_of_none e hD) e) hD hD4
theorem ok_lsp {f : Addr} {fd : FuncData} (F : Fun K "_law_spots" "_law_spots" sLSp f fd) (T : Bi mg) : FnOk P w K mg base CX0 1 f fd ["rows"] (spLSp K) := by
  refine F.ok scLSp (fun vs H Q E h => ?_) (fun cdv A outer s H vs Q E hr h => ?_)
  · obtain ⟨L, xs, rs, rfl, _⟩ := h
    rfl
  · obtain ⟨L, xs, rs, rfl, ⟨hL, hrs, hlen⟩, q⟩ := h
    refine ⟨_, (pss_one (ps_ret (pe_callTy (call_dictP rfl) (by rfl) T.dict (by decide +kernel) (pa_cons (pe_lc (own := [("k", 1), ("row", 2)]) (g := gE K 1 2) (tt := row0Is K 2 "label") (te := tTup (tCons (ixT K 2 1) (tCons (tVar 1) tNil))) rfl scLSp.nd (pi_enum (by rfl) T.enumerate (pa_cons (pv 0) pa_nil)) (blkOk_by (N := ["rows", "k", "row"]) (sc := defScope sLSp) (by decide +kernel)) (fun _ _ _ _ _ => (pg_tup rfl (pgs_cons (pg_name (i := 1) scLSp.nd rfl (.inl rfl) (.inr rfl)) (pgs_cons (pg_name (i := 2) scLSp.nd rfl (.inl rfl) (.inr rfl)) pgs_nil)))) (fun _ _ _ _ _ => pts_one (pt_cmpR op_eq (pe_ix ix_tup (pv 2) pe_int (fun _ _ => rfl)) pe_str (nomark _))) (fun _ _ _ _ _ => (pe_tup (pa_cons (pe_ix ix_tup (pv 2) pe_int (fun _ _ => rfl)) (pa_cons (pv 1) pa_nil))))) pa_nil)))), ?_⟩
    have lx := rowsV_len hrs
    refine ⟨_, rfl, L, xs, rfl, hL, fun D hD => ?_⟩
    refine lc_it walk_enum (fun i H4 => (∀ c o, c ≠ D → H c = some o → H4 c = some o) ∧ ∃ ps : List Addr, H4 D = some (.lst (ps.map V.ref)) ∧ Paired (fun p kv => SqT K H4 p [kV kv.1, kv.2]) ps (labK rs i)) ⟨fun c o hc e => by rw [upd_ne hc]; exact e, [], upd_same, .nil⟩ (fun i H4 _ ⟨kp, _⟩ => sqL_same (fun c o e => kp c o (ne_of_none e hD) e) hL) ?_ ?_
    · rintro i x H4 H4' hi ⟨kp, ps, hD4, hps⟩ ⟨TT, x', y, rfl, hT, rfl, hx', hy⟩
      cases hx'
      have s4 : Same H H4 := fun c o e => kp c o (ne_of_none e hD) e
      have s5 : Same H4 (upd H4 TT (.tup [.int (i : Nat), y])) := same_new hT
      obtain ⟨r, hri, hrv⟩ := rowsV_get hrs hy
      have hrv5 := rowV_same (s4.trans s5) hrv
      obtain ⟨a, zs, rfl, ht, h0⟩ := rowV_tup hrv5
      refine ⟨TT, _, rfl, SqT.of upd_same, rfl, _, _, rfl, _, _, rfl, rfl, rfl, row0_is rfl ht h0 (lab_kind r) ?_⟩
      have hD5 := s5 _ _ hD4
      have el := labOf_at hri
      have pl : ps.length ≤ i := by
        rw [hps.length]
        exact labK_len rs i
      have lk : labK rs (i + 1) = labK rs i ++ (match labR r with
        | some s => [(Sum.inr s, .int (i : Nat))]
        | none => []) := by
        rw [← el]
        rfl
      cases eR : labR r with
      | none =>
        rw [eR, List.append_nil] at lk
        refine iteF ⟨fun c o hc e => s5 _ _ (kp c o hc e), ps, hD5, ?_⟩
        rw [lk]
        exact hps.mono fun p kv h => sqT_same s5 h
      | some z =>
        rw [eR] at lk
        obtain rfl := labR_some eR
        obtain ⟨a', ea, h2⟩ := hrv5
        refine iteT ⟨_, rfl, a', _, _, _, ea, rfl, h2, at_of (i := 1) rfl, _, rfl, (by show 2 ≤ sizeLine; decide), fun p4 hp4 => ?_⟩
        have s6 := s5.trans (same_new (o := .tup [V.str z, V.int (i : Nat)]) hp4)
        have nD : p4 ≠ D := ne_of_none' hD5 hp4
        refine ⟨_, s6 _ _ hD4, ?_, fun c o hc e => ?_, ps ++ [p4], ?_, ?_⟩
        · rw [List.length_map]
          exact small1000 (by omega)
        · rw [upd_ne hc]
          exact s6 _ _ (kp c o hc e)
        · rw [upd_same, List.map_append]
          rfl
        · rw [lk]
          refine Paired.snoc (hps.mono fun p kv h => sqT_put (sqT_same s6 h) (s6 _ _ hD4) trivial) ?_
          exact sqT_put (SqT.of upd_same) (s6 _ _ hD4) trivial
    · rintro H4 ⟨kp, ps, hD4, hps⟩
      have s4 : Same H H4 := fun c o e => kp c o (ne_of_none e hD) e
      rw [lx] at hps
      refine ⟨D, ps, _, rfl, SqL.of hD4, hps, fun p hp => ?_⟩
      rw [merge_labK]
      have hpn : H p = none := by
        cases e : H p with
        | none => rfl
        | some u => rw [s4 _ _ e] at hp; cases hp
      exact q _ p (s4.trans (same_new hp)) hpn upd_same
end

abbrev sLOu : Stmt := topS 45
abbrev sLBe : Stmt := topS 46
theorem scLOu : FnScope ["rows", "spots", "k"] ["rows"] (defScope sLOu) := ⟨rfl, rfl, rfl, by decide +kernel, rfl, by decide +kernel, by decide +kernel⟩
theorem scLBe : FnScope ["rows", "far", "found", "k", "row", "size"] ["rows", "far"] (defScope sLBe) := ⟨rfl, rfl, rfl, by decide +kernel, rfl, by decide +kernel, by decide +kernel⟩
def spLOu (K : PySem.W.Frag) : Sp := fun vs H Q _ => ∃ (L : Addr) (xs : List V) (rs : List Row), vs = [.ref L] ∧ LRows K H L xs rs ∧ ∀ H' p, Same H H' → H p = none → H' p = some (.lst (nats (outs rs))) → Q (.ref p) H'
def spLBe (K : PySem.W.Frag) : Sp := fun vs H Q _ => ∃ (L l : Addr) (xs : List V) (rs : List Row) (ns : List Int), vs = [.ref L, .ref l] ∧ LRows K H L xs rs ∧ noEven rs ∧ SqL K H l (ns.map V.int) ∧ ∀ H' p, Same H H' → H p = none → H' p = some (.lst (offTo (mem ns) rs rs.length)) → Q (.ref p) H'
/-- a branch of the rows -/
theorem br_at {K : PySem.W.Frag} {H : Hp} {xs : List V} {rs : List Row} {k : Nat} (hrs : RowsV K H xs rs) (h : k ∈ brs rs) : ∃ (a : Addr) (c n : Str) (m : Int), xs[k]? = some (.ref a) ∧ SqT K H a [.str "branch", .str c, .str n, .int m] ∧ toOf rs k = some n ∧ k < rs.length := by
  obtain ⟨c, n, m, e⟩ := brs_mem h
  have hk : k < rs.length := (List.getElem?_eq_some_iff.mp e).1
  have lx := rowsV_len hrs
  have ex : xs[k]? = some xs[k] := List.getElem?_eq_getElem (by omega)
  obtain ⟨r, hr, hv⟩ := rowsV_get hrs ex
  rw [e] at hr
  cases hr
  obtain ⟨a, ea, ha⟩ := hv
  rw [ea] at ex
  refine ⟨a, c, n, m, ex, ha, ?_, hk⟩
  rw [toOf_at e]
theorem aim_of {rs : List Row} {k : Nat} {n : Str} (h : toOf rs k = some n) : aim rs k = spot rs n := by
  unfold aim
  rw [h]
  rfl
theorem outs_len (rs : List Row) : (outs rs).length ≤ rs.length := by
  have h1 : (outs rs).length ≤ (brs rs).length := List.length_filter_le _ _
  have h2 := brsTo_len rs rs.length
  have h3 : (brs rs).length = (brsTo rs rs.length).length := rfl
  omega
theorem brs_len (rs : List Row) : (brs rs).length ≤ rs.length := brsTo_len rs rs.length
section
variable {P : Program} {w : World} {K : PySem.W.Frag} {mg : Str → Option Value} {base : Heap}
theorem ok_lou {f : Addr} {fd : FuncData} (F : Fun K "_law_outs" "_law_outs" sLOu f fd) (T : Bi mg) (G1 : Has P w K mg base CX0 1 "_law_spots" ["rows"] (spLSp K)) (G2 : Has P w K mg base CX0 1 "_law_branches" ["rows"] (spLBr K)) : FnOk P w K mg base CX0 2 f fd ["rows"] (spLOu K) := by
  refine F.ok scLOu (fun vs H Q E h => ?_) (fun cdv A outer s H vs Q E hr h => ?_)
  · obtain ⟨L, xs, rs, rfl, _⟩ := h
    rfl
  · obtain ⟨L, xs, rs, rfl, hR, q⟩ := h
    have hu := hu_of hr
    refine ⟨_, (pss_cons (ps_set (i := 1) scLOu.nd rfl (.inr rfl) (pe_callH G1 hr (by rfl) pass0 (pa_cons (pv 0) pa_nil)))
      (pss_one (ps_ret (pe_lc (own := [("k", 2)]) (g := gName 2) (tt := tB (tDNotIn (tOp (rIxT K) (tOp (rIxL K) (tVar 0) (tVar 2)) (tC (.int 2))) (tVar 1))) (te := tVar 2) rfl scLOu.nd (pi_list (pe_callH G2 hr (by rfl) pass0 (pa_cons (pv 0) pa_nil))) (blkOk_by (N := ["rows", "spots", "k"]) (sc := defScope sLOu) (by decide +kernel)) (fun _ _ _ _ _ => pg_name (i := 2) scLOu.nd rfl (.inl rfl)) (fun _ _ _ _ _ => pts_one (pt_cmp (pc_dnotin hu (pe_ix ix_tup (pe_ix ix_list (pv 0) (pv 2) (fun _ _ => rfl)) pe_int (fun _ _ => rfl)) (pv 1)))) (fun _ _ _ _ _ => (pv 2)))))), ?_⟩
    refine ⟨_, rfl, L, xs, rs, rfl, hR, fun H1 d s1 hdn hd => ?_⟩
    refine ⟨_, rfl, L, xs, rs, rfl, hR.same s1, fun H2 B s2 hBn hB => ?_⟩
    have hR2 := hR.same (s1.trans s2)
    refine ⟨B, rfl, ⟨_, SqL.of hB⟩, fun D hD => ?_⟩
    have hd2 := s2 _ _ hd
    have sk : ∀ {H4 : Hp}, (∀ c o, c ≠ D → H2 c = some o → H4 c = some o) → Same H2 H4 := fun kp c o e => kp c o (ne_of_none e hD) e
    refine lc_it walk_list (fun i H4 => (∀ c o, c ≠ D → H2 c = some o → H4 c = some o) ∧ H4 D = some (.lst (nats (((brs rs).take i).filter fun k => (aim rs k).isNone)))) ⟨fun c o hc e => by rw [upd_ne hc]; exact e, upd_same⟩ (fun i H4 _ ⟨kp, _⟩ => SqL.of (sk kp _ _ hB)) ?_ ?_
    · rintro i x H4 H4' hi ⟨kp, hD4⟩ ⟨rfl, hx⟩
      have s4 := sk kp
      obtain ⟨k, hk, rfl⟩ := nats_get hx
      have hR4 := hR2.same s4
      obtain ⟨a, c, n, m, hxa, hta, hto, hkl⟩ := br_at hR4.rows (List.mem_of_getElem? hk)
      refine ⟨rfl, _, rfl, _, rfl, L, _, _, _, rfl, rfl, hR4.lst, at_of hxa, a, _, _, _, rfl, rfl, hta, at_of (i := 2) rfl, _, rfl, d, _, rfl, DGet.k (k := Sum.inr n) (s4 _ _ hd2), _, rfl, ?_⟩
      have ev : (!(valV (spD rs rs.length) (Sum.inr n)).isSome) = (aim rs k).isNone := by
        have : valV (spD rs rs.length) (Sum.inr n) = spV rs n := rfl
        rw [this, spot_spV, aim_of hto]
        cases spot rs n <;> rfl
      rw [ev]
      have tk : (brs rs).take (i + 1) = (brs rs).take i ++ [k] := by
        rw [List.take_add_one, hk]
        rfl
      have bl := brs_len rs
      have hl := hR.len
      rw [tk, List.filter_append]
      cases c9 : (aim rs k).isNone with
      | true =>
        refine iteT ⟨_, rfl, _, hD4, ?_, fun c o hc e => ?_, ?_⟩
        · rw [nats_len]
          have h1 : (((brs rs).take i).filter fun k => (aim rs k).isNone).length ≤ ((brs rs).take i).length := List.length_filter_le _ _
          have h2 : ((brs rs).take i).length ≤ (brs rs).length := by rw [List.length_take]; omega
          exact small1000 (by omega)
        · rw [upd_ne hc]
          exact kp c o hc e
        · rw [upd_same, nats_app]
          have : [k].filter (fun k => (aim rs k).isNone) = [k] := by simp [List.filter, c9]
          rw [this]
          rfl
      | false =>
        refine iteF ⟨kp, ?_⟩
        have : [k].filter (fun k => (aim rs k).isNone) = [] := by simp [List.filter, c9]
        rw [this, List.append_nil]
        exact hD4
    · rintro H4 ⟨kp, hD4⟩
      rw [nats_len, List.take_length] at hD4
      have s4 := (s1.trans s2).trans (sk kp)
      have hDn : H D = none := by
        cases e : H D with
        | none => rfl
        | some u => rw [(s1.trans s2) _ _ e] at hD; cases hD
      exact q H4 D s4 hDn hD4
theorem ok_lbe {f : Addr} {fd : FuncData} (F : Fun K "_law_begins" "_law_begins" sLBe f fd) (T : Bi mg) : FnOk P w K mg base CX0 1 f fd ["rows", "far"] (spLBe K) := by
  refine F.ok scLBe (fun vs H Q E h => ?_) (fun cdv A outer s H vs Q E hr h => ?_)
  · obtain ⟨L, l, xs, rs, ns, rfl, _⟩ := h
    rfl
  · obtain ⟨L, l, xs, rs, ns, rfl, hR, nE, hl, q⟩ := h
    refine ⟨_, (pss_cons (ps_set (i := 2) scLBe.nd rfl (.inl rfl) (pe_lst (pa_cons pe_int pa_nil)))
      (pss_cons (ps_for PassesOwn.never rfl (pi_enum (by rfl) T.enumerate (pa_cons (pv 0) pa_nil)) (pg_tup rfl (pgs_cons (pg_name (i := 3) scLBe.nd rfl (.inl rfl)) (pgs_cons (pg_name (i := 4) scLBe.nd rfl (.inl rfl)) pgs_nil))) (pss_cons (ps_set (i := 5) scLBe.nd rfl (.inl rfl) pe_int)
        (pss_cons (ps_if (pt_cmpR op_eq (pe_ix ix_tup (pv 4) pe_int (fun _ _ => rfl)) pe_str (nomark _)) (pss_one (ps_set (i := 5) scLBe.nd rfl (.inl rfl) (pe_callB call_len_seq (by rfl) T.len (by decide +kernel) (pa_cons (pe_ix ix_tup (pv 4) pe_int (fun _ _ => rfl)) pa_nil)))) (pss_one (ps_if (pt_cmpR op_eq (pe_ix ix_tup (pv 4) pe_int (fun _ _ => rfl)) pe_str (nomark _)) (pss_one ps_never) (pss_one (ps_if (pt_cmpR op_eq (pe_ix ix_tup (pv 4) pe_int (fun _ _ => rfl)) pe_str (nomark _)) (pss_one (ps_set (i := 5) scLBe.nd rfl (.inl rfl) (pe_op op_add pe_int (pe_callTy call_int1 (by rfl) T.int (by decide +kernel) (pa_cons (pe_cmpR op_in_seq (pv 3) (pv 1) (by rfl)) pa_nil))))) pss_nil)))))
        (pss_one (ps_expr (pe_bm PySem.F.plainAttrs_list PySem.F.slot_list_append PySem.F.type_list_append mt_append (pv 2) (pa_cons (pe_op op_add (pe_ix ix_list (pv 2) (pe_un un_neg pe_int) (fun _ _ => rfl)) (pv 5)) pa_nil)))))))
      (pss_one (ps_ret (pv 2))))), ?_⟩
    refine ⟨(by show 1 ≤ sizeLine; decide), fun p hp => ?_⟩
    refine ⟨_, rfl, L, xs, rfl, (hR.same (same_new hp)).lst, ?_⟩
    have lx := rowsV_len hR.rows
    have hlen := hR.len
    refine for_it walk_enum (fun i σ H4 => ∃ (a b c : Option V), σ = [some (.ref L), some (.ref l), some (.ref p), a, b, c] ∧ Same H H4 ∧ H4 p = some (.lst (offTo (mem ns) rs i))) ⟨none, none, none, rfl, same_new hp, upd_same⟩ (fun i σ H4 _ ⟨_, _, _, _, sm, _⟩ => (hR.same sm).lst) ?_ ?_
    · rintro i x σ H4 H4' hi ⟨a, b, c, rfl, sm, hp4⟩ ⟨TT, x', y, rfl, hT, rfl, hx', hy⟩
      cases hx'
      have sm5 : Same H4 (upd H4 TT (.tup [.int (i : Nat), y])) := same_new hT
      obtain ⟨r, hri, hrv⟩ := rowsV_get hR.rows hy
      have hrv5 := rowV_same (sm.trans sm5) hrv
      have hp5 := sm5 _ _ hp4
      have hi' : i < rs.length := by omega
      have s5 := sm.trans sm5
      refine ⟨TT, _, rfl, SqT.of upd_same, rfl, _, _, rfl, _, _, rfl, rfl, ?_⟩
      cases r with
      | words n =>
        obtain ⟨a, b, rfl, h2, zz, hz, hzl⟩ := hrv5
        refine ⟨_, rfl, a, _, _, _, rfl, rfl, h2, at_of (i := 0) rfl, rfl, _, rfl, kEq (by decide +kernel) ⟨_, rfl, a, _, _, _, rfl, rfl, h2, at_of (i := 1) rfl, b, zz, rfl, hz, ?_⟩⟩
        refine ⟨_, rfl, .inl ⟨rfl, _, SqL.of hp5⟩, _, rfl, _, rfl, p, _, _, _, rfl, rfl, SqL.of hp5, offTo_last _ _ _, _, rfl, _, _, rfl, rfl, p, _, _, rfl, rfl, hp5, ?_, _, _, _, rfl, same_upd s5 hp, ?_⟩
        · rw [offTo_len]
          exact small1000 (by omega)
        · rw [upd_same, offTo_succ, off_succ hri]
          rw [hzl]
          rfl
      | label z =>
        obtain ⟨a, rfl, h2⟩ := hrv5
        refine ⟨_, rfl, a, _, _, _, rfl, rfl, h2, at_of (i := 0) rfl, rfl, _, rfl, kNe (by decide +kernel) ⟨_, rfl, a, _, _, _, rfl, rfl, h2, at_of (i := 0) rfl, rfl, _, rfl, kNe (by decide +kernel) ⟨_, rfl, a, _, _, _, rfl, rfl, h2, at_of (i := 0) rfl, rfl, _, rfl, kNe (by decide +kernel) ?_⟩⟩⟩
        refine ⟨_, rfl, .inl ⟨rfl, _, SqL.of hp5⟩, _, rfl, _, rfl, p, _, _, _, rfl, rfl, SqL.of hp5, offTo_last _ _ _, _, rfl, _, _, rfl, rfl, p, _, _, rfl, rfl, hp5, ?_, _, _, _, rfl, same_upd s5 hp, ?_⟩
        · rw [offTo_len]
          exact small1000 (by omega)
        · rw [upd_same, offTo_succ, off_succ hri]
          rfl
      | even n =>
        have := noEven_iff.mp nE _ (List.mem_of_getElem? hri)
        cases this
      | branch c n m =>
        obtain ⟨a, rfl, h2⟩ := hrv5
        refine ⟨_, rfl, a, _, _, _, rfl, rfl, h2, at_of (i := 0) rfl, rfl, _, rfl, kNe (by decide +kernel) ⟨_, rfl, a, _, _, _, rfl, rfl, h2, at_of (i := 0) rfl, rfl, _, rfl, kNe (by decide +kernel) ⟨_, rfl, a, _, _, _, rfl, rfl, h2, at_of (i := 0) rfl, rfl, _, rfl, kEq (by decide +kernel) ?_⟩⟩⟩
        refine ⟨_, rfl, _, rfl, l, _, rfl, .inl (sqL_same s5 hl), rfl, flat_ints ns, .inr ⟨_, rfl, _, _, rfl, rfl, ?_⟩⟩
        refine ⟨_, rfl, .inl ⟨rfl, _, SqL.of hp5⟩, _, rfl, _, rfl, p, _, _, _, rfl, rfl, SqL.of hp5, offTo_last _ _ _, _, rfl, _, _, rfl, rfl, p, _, _, rfl, rfl, hp5, ?_, _, _, _, rfl, same_upd s5 hp, ?_⟩
        · rw [offTo_len]
          exact small1000 (by omega)
        · rw [upd_same, offTo_succ, off_succ hri]
          have e : inV (.int (i : Nat)) (ns.map V.int) = mem ns (i : Nat) := inV_ints _ _
          have e2 : (if false = true then !inV (V.int (i : Nat)) (ns.map V.int) else inV (V.int (i : Nat)) (ns.map V.int)) = mem ns (i : Nat) := e
          rw [e2]
          cases mem ns (i : Nat) <;> rfl
    · rintro σ H4 ⟨a, b, c, rfl, sm, hp4⟩
      rw [lx] at hp4
      exact ⟨_, rfl, q H4 p sm hp hp4⟩
end

abbrev sLWa : Stmt := topS 47
abbrev sLLo : Stmt := topS 48
theorem scLWa : FnScope ["rows", "far", "begins", "spots", "inner", "k"] ["rows", "far"] (defScope sLWa) := ⟨rfl, rfl, rfl, by decide +kernel, rfl, by decide +kernel, by decide +kernel⟩
theorem scLLo : FnScope ["rows", "far", "gaps", "k"] ["rows", "far"] (defScope sLLo) := ⟨rfl, rfl, rfl, by decide +kernel, rfl, by decide +kernel, by decide +kernel⟩
def wayD (f : Int → Bool) (rs : List Row) : List (Key × V) := mapD (fun k => .int (way f rs k)) (inn rs)
def spLWa (K : PySem.W.Frag) : Sp := fun vs H Q _ => ∃ (L l : Addr) (xs : List V) (rs : List Row) (ns : List Int), vs = [.ref L, .ref l] ∧ LRows K H L xs rs ∧ noEven rs ∧ SqL K H l (ns.map V.int) ∧ ∀ H' p, Same H H' → H p = none → H' p = some (.dK (wayD (mem ns) rs)) → Q (.ref p) H'
def spLLo (K : PySem.W.Frag) : Sp := fun vs H Q _ => ∃ (L l : Addr) (xs : List V) (rs : List Row) (ns : List Int), vs = [.ref L, .ref l] ∧ LRows K H L xs rs ∧ noEven rs ∧ SqL K H l (ns.map V.int) ∧ ∀ H' p, Same H H' → H p = none → H' p = some (.lst (nats (long (mem ns) rs))) → Q (.ref p) H'
theorem inn_nodup (rs : List Row) : (inn rs).Nodup := by
  rw [← brs_inn]
  exact List.Nodup.sublist (List.filter_sublist ..) (brs_nodup rs)
theorem merge_mapD (g : Nat → V) : ∀ (ks js : List Nat), (js ++ ks).Nodup → mergeK (mapD g js) (mapD g ks) = mapD g (js ++ ks)
  | [], js, _ => by rw [List.append_nil]; rfl
  | k :: ks, js, nd => by
    have e : mergeK (mapD g js) (mapD g (k :: ks)) = mergeK (putK (mapD g js) (Sum.inl (k : Int)) (g k)) (mapD g ks) := rfl
    have hk : k ∉ js := fun z => by
      have := (List.nodup_append.mp nd).2.2 k z k (by simp)
      exact this rfl
    have ep : putK (mapD g js) (Sum.inl (k : Int)) (g k) = mapD g (js ++ [k]) := by
      have hv : valV (mapD g js) (Sum.inl (k : Int)) = none := by rw [mapD_val, if_neg hk]
      rw [putK_new _ hv]
      unfold mapD
      rw [List.map_append]
      rfl
    rw [e, ep, merge_mapD g ks (js ++ [k]) (by rw [List.append_assoc]; exact nd), List.append_assoc]
    rfl
theorem inn_at {K : PySem.W.Frag} {H : Hp} {xs : List V} {rs : List Row} {k : Nat} (hrs : RowsV K H xs rs) (h : k ∈ inn rs) : ∃ (a : Addr) (c n : Str) (m : Int) (j : Nat), xs[k]? = some (.ref a) ∧ SqT K H a [.str "branch", .str c, .str n, .int m] ∧ spV rs n = some (.int (j : Nat)) ∧ aim rs k = some j ∧ j < rs.length ∧ k < rs.length := by
  rw [← brs_inn] at h
  obtain ⟨h1, h2⟩ := List.mem_filter.mp h
  obtain ⟨a, c, n, m, e1, e2, e3, e4⟩ := br_at hrs h1
  obtain ⟨j, ej⟩ := Option.isSome_iff_exists.mp h2
  have es := spot_spV rs n
  rw [← aim_of e3, ej] at es
  exact ⟨a, c, n, m, j, e1, e2, es, ej, (aim_lt ej).1, e4⟩
section
variable {P : Program} {w : World} {K : PySem.W.Frag} {mg : Str → Option Value} {base : Heap}
theorem ok_lwa {f : Addr} {fd : FuncData} (F : Fun K "_law_ways" "_law_ways" sLWa f fd) (T : Bi mg) (G1 : Has P w K mg base CX0 1 "_law_begins" ["rows", "far"] (spLBe K)) (G2 : Has P w K mg base CX0 1 "_law_spots" ["rows"] (spLSp K)) (G3 : Has P w K mg base CX0 1 "_law_branches" ["rows"] (spLBr K)) : FnOk P w K mg base CX0 2 f fd ["rows", "far"] (spLWa K) := by
  refine F.ok scLWa (fun vs H Q E h => ?_) (fun cdv A outer s H vs Q E hr h => ?_)
  · obtain ⟨L, l, xs, rs, ns, rfl, _⟩ := h
    rfl
  · obtain ⟨L, l, xs, rs, ns, rfl, hR, nE, hl, q⟩ := h
    have hu := hu_of hr
    refine ⟨_, (pss_cons (ps_asg (pe_tup (pa_cons (pe_callH G1 hr (by rfl) pass0 (pa_cons (pv 0) (pa_cons (pv 1) pa_nil))) (pa_cons (pe_callH G2 hr (by rfl) pass0 (pa_cons (pv 0) pa_nil)) pa_nil))) (pg_tup rfl (pgs_cons (pg_name (i := 2) scLWa.nd rfl (.inr rfl)) (pgs_cons (pg_name (i := 3) scLWa.nd rfl (.inr rfl)) pgs_nil))))
      (pss_cons (ps_setLc (i := 4) (own := [("k", 5)]) (g := gName 5) (tt := tB (tDIn (tOp (rIxT K) (tOp (rIxL K) (tVar 0) (tVar 5)) (tC (.int 2))) (tVar 3))) (te := tVar 5) rfl scLWa.nd rfl rfl (sw_true rfl rfl rfl (by decide +kernel)) (pi_list (pe_callH G3 hr (by rfl) pass0 (pa_cons (pv 0) pa_nil))) (blkOk_by (N := ["rows", "far", "begins", "spots", "inner", "k"]) (sc := defScope sLWa) (by decide +kernel)) (fun _ _ _ _ _ => pg_name (i := 5) scLWa.nd rfl (.inl rfl)) (fun _ _ _ _ _ => pts_one (pt_cmp (pc_din hu (pe_ix ix_tup (pe_ix ix_list (pv 0) (pv 5) (fun _ _ => rfl)) pe_int (fun _ _ => rfl)) (pv 3)))) (fun _ _ _ _ _ => (pv 5)))
      (pss_one (ps_ret (pe_callTy (call_dictP rfl) (by rfl) T.dict (by decide +kernel) (pa_cons (pe_lc (own := [("k", 5)]) (g := gName 5) (tt := tYes) (te := tTup (tCons (tVar 5) (tCons (tOp (rI0 fun i j => .int (i - j)) (tOp (rIxL K) (tVar 2) (tDGet (tVar 3) (tOp (rIxT K) (tOp (rIxL K) (tVar 0) (tVar 5)) (tC (.int 2))))) (tOp (rIxL K) (tVar 2) (tVar 5))) tNil))) rfl scLWa.nd (pi_list (pv 4)) (blkOk_by (N := ["rows", "far", "begins", "spots", "inner", "k"]) (sc := defScope sLWa) (by decide +kernel)) (fun _ _ _ _ _ => pg_name (i := 5) scLWa.nd rfl (.inl rfl)) (fun _ _ _ _ _ => pts_nil) (fun _ _ _ _ _ => (pe_tup (pa_cons (pv 5) (pa_cons (pe_op op_sub (pe_ix ix_list (pv 2) (pe_dget hu (pv 3) (pe_ix ix_tup (pe_ix ix_list (pv 0) (pv 5) (fun _ _ => rfl)) pe_int (fun _ _ => rfl)) (fun _ _ => rfl)) (fun _ _ => rfl)) (pe_ix ix_list (pv 2) (pv 5) (fun _ _ => rfl))) pa_nil))))) pa_nil)))))), ?_⟩
    refine ⟨_, rfl, _, rfl, L, l, xs, rs, ns, rfl, hR, nE, hl, fun H1 O s1 _ hO => ?_⟩
    refine ⟨_, rfl, L, xs, rs, rfl, hR.same s1, fun H2 S s2 _ hS => ⟨(by show 2 ≤ sizeLine; decide), fun p hp => ?_⟩⟩
    refine ⟨p, _, rfl, SqT.of upd_same, rfl, _, _, rfl, _, _, rfl, rfl, ?_⟩
    have s3 := same_new (o := .tup [V.ref O, V.ref S]) hp
    have s03 := (s1.trans s2).trans s3
    have hO3 := s3 _ _ (s2 _ _ hO)
    have hS3 := s3 _ _ hS
    generalize hH3 : upd H2 p (.tup [V.ref O, V.ref S]) = H3 at s3 s03 hO3 hS3
    refine ⟨_, rfl, L, xs, rs, rfl, hR.same s03, fun H4 B s4 _ hB => ⟨B, rfl, ⟨_, SqL.of hB⟩, fun D hD => ?_⟩⟩
    have hO4 := s4 _ _ hO3
    have hS4 := s4 _ _ hS3
    have s04 := s03.trans s4
    have bl := brs_len rs
    have hl9 := hR.len
    have sk : ∀ {H5 : Hp}, (∀ c o, c ≠ D → H4 c = some o → H5 c = some o) → Same H4 H5 := fun kp c o e => kp c o (ne_of_none e hD) e
    have hDn : H D = none := by
      cases e : H D with
      | none => rfl
      | some u => rw [s04 _ _ e] at hD; cases hD
    refine lc_it walk_list (fun i H5 => (∀ c o, c ≠ D → H4 c = some o → H5 c = some o) ∧ H5 D = some (.lst (nats (((brs rs).take i).filter fun k => (aim rs k).isSome)))) ⟨fun c o hc e => by rw [upd_ne hc]; exact e, upd_same⟩ (fun i H5 _ ⟨kp, _⟩ => SqL.of (sk kp _ _ hB)) ?_ ?_
    · rintro i x H5 H5' hi ⟨kp, hD5⟩ ⟨rfl, hx⟩
      have s5 := sk kp
      obtain ⟨k, hk, rfl⟩ := nats_get hx
      have hR5 := hR.same (s04.trans s5)
      obtain ⟨a, c, n, m, hxa, hta, hto, hkl⟩ := br_at hR5.rows (List.mem_of_getElem? hk)
      refine ⟨rfl, _, rfl, _, rfl, L, _, _, _, rfl, rfl, hR5.lst, at_of hxa, a, _, _, _, rfl, rfl, hta, at_of (i := 2) rfl, _, rfl, S, _, rfl, DGet.k (k := Sum.inr n) (s5 _ _ hS4), _, rfl, ?_⟩
      have ev : (valV (spD rs rs.length) (Sum.inr n)).isSome = (aim rs k).isSome := by
        have : valV (spD rs rs.length) (Sum.inr n) = spV rs n := rfl
        rw [this, spot_spV, aim_of hto]
        cases spot rs n <;> rfl
      rw [ev]
      have tk : (brs rs).take (i + 1) = (brs rs).take i ++ [k] := by
        rw [List.take_add_one, hk]
        rfl
      rw [tk, List.filter_append]
      cases c9 : (aim rs k).isSome with
      | true =>
        refine iteT ⟨_, rfl, _, hD5, ?_, fun c o hc e => ?_, ?_⟩
        · rw [nats_len]
          have h1 : (((brs rs).take i).filter fun k => (aim rs k).isSome).length ≤ ((brs rs).take i).length := List.length_filter_le _ _
          have h2 : ((brs rs).take i).length ≤ (brs rs).length := by rw [List.length_take]; omega
          exact small1000 (by omega)
        · rw [upd_ne hc]
          exact kp c o hc e
        · rw [upd_same, nats_app]
          have : [k].filter (fun k => (aim rs k).isSome) = [k] := by simp [List.filter, c9]
          rw [this]
          rfl
      | false =>
        refine iteF ⟨kp, ?_⟩
        have : [k].filter (fun k => (aim rs k).isSome) = [] := by simp [List.filter, c9]
        rw [this, List.append_nil]
        exact hD5
    · rintro H5 ⟨kp, hD5⟩
      rw [nats_len, List.take_length, brs_inn] at hD5
      have s5 := sk kp
      have s05 := s04.trans s5
      have il := inn_len rs
      refine ⟨_, rfl, D, rfl, ⟨_, SqL.of hD5⟩, fun E2 hE2 => ?_⟩
      have sk2 : ∀ {H6 : Hp}, (∀ c o, c ≠ E2 → H5 c = some o → H6 c = some o) → Same H5 H6 := fun kp c o e => kp c o (ne_of_none e hE2) e
      refine lc_it walk_list (fun i H6 => (∀ c o, c ≠ E2 → H5 c = some o → H6 c = some o) ∧ ∃ ps : List Addr, H6 E2 = some (.lst (ps.map V.ref)) ∧ Paired (fun p kv => SqT K H6 p [kV kv.1, kv.2]) ps (mapD (fun k => .int (way (mem ns) rs k)) ((inn rs).take i))) ⟨fun c o hc e => by rw [upd_ne hc]; exact e, [], upd_same, .nil⟩ (fun i H6 _ ⟨kp, _⟩ => SqL.of (sk2 kp _ _ hD5)) ?_ ?_
      · rintro i x H6 H6' hi ⟨kp2, ps, hE6, hps⟩ ⟨rfl, hx⟩
        have s6 := sk2 kp2
        obtain ⟨k, hk, rfl⟩ := nats_get hx
        have hR6 := hR.same (s05.trans s6)
        obtain ⟨a, c, n, m, j, hxa, hta, hsp, hai, hjl, hkl⟩ := inn_at hR6.rows (List.mem_of_getElem? hk)
        have hO6 := s6 _ _ (s5 _ _ hO4)
        have hS6 := s6 _ _ (s5 _ _ hS4)
        have hg : DGet H6' S (.str n) (some (.int (j : Nat))) := by
          have := DGet.k (k := Sum.inr n) hS6
          rw [show valV (spD rs rs.length) (Sum.inr n) = some (.int (j : Nat)) from hsp] at this
          exact this
        have tk : (inn rs).take (i + 1) = (inn rs).take i ++ [k] := by
          rw [List.take_add_one, hk]
          rfl
        have pl : ps.length ≤ i := by
          rw [hps.length, mapD_len, List.length_take]
          omega
        have hi2 : i < (inn rs).length := (List.getElem?_eq_some_iff.mp hk).1
        refine ⟨rfl, yes_go (iteT ⟨_, rfl, _, rfl, _, rfl, _, rfl, _, rfl, L, _, _, _, rfl, rfl, hR6.lst, at_of hxa, a, _, _, _, rfl, rfl, hta, at_of (i := 2) rfl, S, _, rfl, hg, O, _, _, _, rfl, rfl, SqL.of hO6, offTo_at (by omega), _, rfl, _, rfl, O, _, _, _, rfl, rfl, SqL.of hO6, offTo_at (by omega), _, _, rfl, rfl, (by show 2 ≤ sizeLine; decide), fun p4 hp4 => ?_⟩)⟩
        have s7 := same_new (o := .tup [V.int (k : Nat), V.int (off (mem ns) rs j - off (mem ns) rs k)]) hp4
        refine ⟨_, s7 _ _ hE6, ?_, fun c o hc e => ?_, ps ++ [p4], ?_, ?_⟩
        · rw [List.length_map]
          exact small1000 (by omega)
        · rw [upd_ne hc]
          exact s7 _ _ (kp2 c o hc e)
        · rw [upd_same, List.map_append]
          rfl
        · rw [tk]
          have e9 : mapD (fun k => V.int (way (mem ns) rs k)) ((inn rs).take i ++ [k]) = mapD (fun k => V.int (way (mem ns) rs k)) ((inn rs).take i) ++ [(Sum.inl ((k : Nat) : Int), V.int (way (mem ns) rs k))] := by
            unfold mapD
            rw [List.map_append]
            rfl
          rw [e9]
          refine Paired.snoc (hps.mono fun p kv h => sqT_put (sqT_same s7 h) (s7 _ _ hE6) trivial) ?_
          have ew : way (mem ns) rs k = off (mem ns) rs j - off (mem ns) rs k := by
            unfold way
            rw [hai]
            rfl
          show SqT K _ p4 [V.int (k : Nat), V.int (way (mem ns) rs k)]
          rw [ew]
          exact sqT_put (SqT.of upd_same) (s7 _ _ hE6) trivial
      · rintro H6 ⟨kp2, ps, hE6, hps⟩
        have s6 := sk2 kp2
        rw [nats_len, List.take_length] at hps
        refine ⟨E2, ps, _, rfl, SqL.of hE6, hps, fun p9 hp9 => ?_⟩
        have em : mergeK [] (mapD (fun k => V.int (way (mem ns) rs k)) (inn rs)) = wayD (mem ns) rs := merge_mapD _ (inn rs) [] (by rw [List.nil_append]; exact inn_nodup rs)
        rw [em]
        have s06 := s05.trans s6
        have hpn : H p9 = none := by
          cases e : H p9 with
          | none => rfl
          | some u => rw [s06 _ _ e] at hp9; cases hp9
        exact q _ p9 (s06.trans (same_new hp9)) hpn upd_same
end

section
variable {P : Program} {w : World} {K : PySem.W.Frag} {mg : Str → Option Value} {base : Heap}
theorem ok_llo {f : Addr} {fd : FuncData} (F : Fun K "_law_long" "_law_long" sLLo f fd) (T : Bi mg) (G1 : Has P w K mg base CX0 2 "_law_ways" ["rows", "far"] (spLWa K)) : FnOk P w K mg base CX0 3 f fd ["rows", "far"] (spLLo K) := by
  refine F.ok scLLo (fun vs H Q E h => ?_) (fun cdv A outer s H vs Q E hr h => ?_)
  · obtain ⟨L, l, xs, rs, ns, rfl, _⟩ := h
    rfl
  · obtain ⟨L, l, xs, rs, ns, rfl, hR, nE, hl, q⟩ := h
    have hu := hu_of hr
    refine ⟨_, (pss_cons (ps_set (i := 2) scLLo.nd rfl (.inr rfl) (pe_callH G1 hr (by rfl) pass0 (pa_cons (pv 0) (pa_cons (pv 1) pa_nil))))
      (pss_one (ps_ret (pe_lock (pe_lc (own := [("k", 3)]) (g := gName 3) (tt := tAnd (tTest (tOp (rIn K true) (tVar 3) (tVar 1))) (tOr (tTest (tOp (rI0 fun i j => .bl (decide (i < j))) (tDGet (tVar 2) (tVar 3)) (tUn (rU fun i => .int (-i)) (tC (.int 256))))) (tTest (tOp (rI0 fun i j => .bl (decide (j < i))) (tDGet (tVar 2) (tVar 3)) (tC (.int 255)))))) (te := tVar 3) rfl scLLo.nd (pi_keys (pv 2)) (blkOk_by (N := ["rows", "far", "gaps", "k"]) (sc := defScope sLLo) (by decide +kernel)) (fun _ _ _ _ _ => pg_name (i := 3) scLLo.nd rfl (.inl rfl))
        (fun _ _ _ _ _ => pts_one (PW.pt (pw_and (pt_cmpR op_notIn_seq (pv 3) (pv 1) (by rfl)) (pw_and1 (PW.pt (pw_or (pt_cmpR op_lt (pe_dget hu (pv 2) (pv 3) (fun _ _ => rfl)) (pe_un un_neg pe_int) (nomark _)) (pw_or1 (pt_cmpR op_gt (pe_dget hu (pv 2) (pv 3) (fun _ _ => rfl)) pe_int (nomark _))))))))) (fun _ _ _ _ _ => (pv 3))))))), ?_⟩
    refine ⟨_, rfl, _, rfl, L, l, xs, rs, ns, rfl, hR, nE, hl, fun H0 d s0 hdn hd => ?_⟩
    refine ⟨d, _, hd, trivial, fun od => ⟨_, rfl, d, od, rfl, .inl ⟨_, upd_same, fun D hD => ?_⟩⟩⟩
    have hDd : D ≠ d := by
      intro z
      rw [z, upd_same] at hD
      cases hD
    have hDn : H0 D = none := by
      rw [upd_ne hDd] at hD
      exact hD
    refine lc_it walk_keys (fun i H1 => (∀ b o, b ≠ D → upd H0 d (.frz od (.dK (wayD (mem ns) rs))) b = some o → H1 b = some o) ∧ H1 D = some (.lst (nats (((inn rs).take i).filter (isLong (mem ns) rs)))))
      ⟨fun b o hb e => by rw [upd_ne hb]; exact e, upd_same⟩ (fun i H1 _ ⟨kp, _⟩ => kp _ _ hDd.symm upd_same) ?_ ?_
    · rintro i x H1 H1' hi ⟨kp, hD1⟩ ⟨rfl, k, v, hk, rfl⟩
      obtain ⟨kk, hkk, hk2⟩ : ∃ kk, (inn rs)[i]? = some kk ∧ (k, v) = (Sum.inl (kk : Int), V.int (way (mem ns) rs kk)) := by
        unfold wayD mapD at hk
        rw [List.getElem?_map] at hk
        cases e : (inn rs)[i]? with
        | none => rw [e] at hk; cases hk
        | some kk =>
          rw [e] at hk
          exact ⟨kk, rfl, (Option.some.inj hk).symm⟩
      cases hk2
      have hmem := List.mem_of_getElem? hkk
      have hd1 : H1' d = some (.frz od (.dK (wayD (mem ns) rs))) := kp _ _ hDd.symm upd_same
      have hl1 : SqL K H1' l (ns.map V.int) := by
        rcases sqL_same s0 hl with hq | hq
        · rcases hq with hq | ⟨o, hq⟩
          · refine .inl (.inl (kp _ _ (ne_of_none hq hDn) ?_))
            rw [upd_ne (ne_of hq hd (by intro z; cases z))]
            exact hq
          · refine .inl (.inr ⟨o, kp _ _ (ne_of_none hq hDn) ?_⟩)
            rw [upd_ne (ne_of hq hd (by intro z; cases z))]
            exact hq
        · exact .inr hq
      have hg : DGet H1' d (.int (kk : Nat)) (some (.int (way (mem ns) rs kk))) := by
        refine .inl ⟨wayD (mem ns) rs, Sum.inl (kk : Int), .inr ⟨od, hd1⟩, rfl, ?_⟩
        unfold wayD
        rw [mapD_val, if_pos hmem]
      have tk : (inn rs).take (i + 1) = (inn rs).take i ++ [kk] := by
        rw [List.take_add_one, hkk]
        rfl
      have end1 : isLong (mem ns) rs kk = true → ∃ acc, H1' D = some (.lst acc) ∧ acc.length < sizeLine ∧ ((∀ b o, b ≠ D → upd H0 d (.frz od (.dK (wayD (mem ns) rs))) b = some o → upd H1' D (.lst (acc ++ [V.int (kk : Int)])) b = some o) ∧ upd H1' D (.lst (acc ++ [V.int (kk : Int)])) D = some (.lst (nats (((inn rs).take (i + 1)).filter (isLong (mem ns) rs))))) := by
        intro hlg
        refine ⟨_, hD1, ?_, fun b o hb e => ?_, ?_⟩
        · rw [nats_len]
          have h1 : (((inn rs).take i).filter (isLong (mem ns) rs)).length ≤ ((inn rs).take i).length := List.length_filter_le _ _
          have h2 : ((inn rs).take i).length ≤ (inn rs).length := by rw [List.length_take]; omega
          have h3 := inn_len rs
          have h4 := hR.len
          exact small1000 (by omega)
        · rw [upd_ne hb]
          exact kp b o hb e
        · rw [upd_same, tk, List.filter_append, nats_app]
          have z : [kk].filter (isLong (mem ns) rs) = [kk] := by simp [List.filter, hlg]
          rw [z]
          rfl
      have end0 : isLong (mem ns) rs kk = false → (∀ b o, b ≠ D → upd H0 d (.frz od (.dK (wayD (mem ns) rs))) b = some o → H1' b = some o) ∧ H1' D = some (.lst (nats (((inn rs).take (i + 1)).filter (isLong (mem ns) rs)))) := by
        intro hlg
        refine ⟨kp, ?_⟩
        rw [tk, List.filter_append]
        have z : [kk].filter (isLong (mem ns) rs) = [] := by simp [List.filter, hlg]
        rw [z, List.append_nil]
        exact hD1
      refine ⟨rfl, _, rfl, _, rfl, l, _, rfl, .inl hl1, rfl, flat_ints ns, _, rfl, ?_⟩
      show if (!inV (.int (kk : Int)) (ns.map V.int)) = true then _ else _
      rw [inV_ints]
      have em : decide ((kk : Int) ∈ ns) = mem ns (kk : Int) := rfl
      rw [em]
      unfold isLong tooL at end1 end0
      cases c : mem ns (kk : Int) with
      | true =>
        rw [c] at end0
        exact iteF (iteF (end0 rfl))
      | false =>
        rw [c] at end0 end1
        refine iteT ⟨_, rfl, _, rfl, d, _, rfl, hg, _, rfl, _, _, rfl, rfl, _, rfl, ?_⟩
        cases c2 : decide (way (mem ns) rs kk < -256) with
        | true =>
          rw [c2] at end1
          exact iteT (iteT ⟨_, rfl, end1 rfl⟩)
        | false =>
          rw [c2] at end0 end1
          refine iteF ⟨_, rfl, _, rfl, d, _, rfl, hg, _, _, rfl, rfl, _, rfl, ?_⟩
          cases c3 : decide (255 < way (mem ns) rs kk) with
          | true =>
            have c3' : decide (way (mem ns) rs kk > 255) = true := c3
            rw [c3'] at end1
            exact iteT ⟨_, rfl, end1 rfl⟩
          | false =>
            have c3' : decide (way (mem ns) rs kk > 255) = false := c3
            rw [c3'] at end0
            exact iteF (end0 rfl)
    · rintro H1 ⟨kp, hD1⟩
      have tl : (inn rs).take (wayD (mem ns) rs).length = inn rs := by
        unfold wayD
        rw [mapD_len]
        exact List.take_length
      rw [tl] at hD1
      have hd1 : H1 d = some (.frz od (.dK (wayD (mem ns) rs))) := kp _ _ hDd.symm upd_same
      refine ⟨hd1, q _ D (s0.trans (same_unlock hd hDn kp)) ?_ ?_⟩
      · cases e : H D with
        | none => rfl
        | some o => rw [s0 _ _ e] at hDn; cases hDn
      · rw [upd_ne hDd]
        exact hD1
end

abbrev sLInt : Stmt := topS 51
abbrev sSame : Stmt := topS 41
theorem scLInt : FnScope ["thing"] ["thing"] (defScope sLInt) := ⟨rfl, rfl, rfl, by decide +kernel, rfl, by decide +kernel, by decide +kernel⟩
theorem scSame : FnScope ["found", "due", "u", "v"] ["found", "due"] (defScope sSame) := ⟨rfl, rfl, rfl, by decide +kernel, rfl, by decide +kernel, by decide +kernel⟩
def Scal : PyData → Prop
  | .int _ => True
  | .bool _ => True
  | .str _ => True
  | _ => False
/-- such things of things in Pd as are compared -/
def SameS (Pd : PyData → Prop) : PyData → Prop
  | .int _ => True
  | .bool _ => True
  | .str _ => True
  | .list ds => ds.length ≤ 900 ∧ ∀ d ∈ ds, Pd d
  | .tuple ds => ds.length ≤ 900 ∧ ∀ d ∈ ds, Pd d
  | _ => False
def spSame (K : PySem.W.Frag) (Pd : PyData → Prop) : Sp := fun vs H Q _ => ∃ v u d, vs = [v, u] ∧ Dp K H v d ∧ Dp K H u d ∧ Pd d ∧ ∀ H', Same H H' → Q (.bl true) H'
abbrev gUV (K : PySem.W.Frag) : TG := gTup K 2 (gCons (gName 2) (gCons (gName 3) gNil))
section
variable {P : Program} {w : World} {K : PySem.W.Frag} {mg : Str → Option Value} {base : Heap}
theorem ok_lint {f : Addr} {fd : FuncData} (F : Fun K "_law_is_integer" "_law_is_integer" sLInt f fd) (T : Bi mg) : FnOk P w K mg base CX0 1 f fd ["thing"] (spIsInt K) := by
  refine F.ok scLInt (fun vs H Q E h => ?_) (fun cdv A outer s H vs Q E hr h => ?_)
  · obtain ⟨v, d, rfl, _⟩ := h
    rfl
  · obtain ⟨v, d, rfl, th, q⟩ := h
    refine ⟨_, (pss_one (ps_ret (pe_and (pe_callB call_isi (by rfl) T.isinstance (by decide +kernel) (pa_cons (pv 0) (pa_cons (pe_bltn (v := .ty "int") (by rfl) T.int (by decide +kernel) rfl) pa_nil))) (pe_one (pe_not (pe_callB call_isi (by rfl) T.isinstance (by decide +kernel) (pa_cons (pv 0) (pa_cons (pe_bltn (v := .ty "bool") (by rfl) T.bool (by decide +kernel) rfl) pa_nil)))))))), ?_⟩
    refine ⟨_, rfl, v, _, _, _, _, rfl, .ty "int", th_ty th, kit_int d, _, rfl, ?_⟩
    cases e : isIB d with
    | false =>
      refine iteF ?_
      have z : isI d = false := by cases d <;> first | rfl | cases e
      rw [z] at q
      exact q
    | true =>
      refine iteT ⟨_, rfl, v, _, _, _, _, rfl, .ty "bool", th_ty th, kit_bool d, _, rfl, ?_⟩
      have z : isI d = !isB d := by cases d <;> first | rfl | cases e
      rw [z] at q
      exact q
theorem kit_list1 {K : PySem.W.Frag} (d : PyData) : PySem.W.kitOne K (.type (tyN d)) (.type "list") = some (tyN d == "list") := kit_ty (kb_list _ (tyN_mem d))
theorem kit_tup1 {K : PySem.W.Frag} (d : PyData) : PySem.W.kitOne K (.type (tyN d)) (.type "tuple") = some (tyN d == "tuple") := kit_ty (kb_tup _ (tyN_mem d))
theorem kit_lt {K : PySem.W.Frag} (d : PyData) : PySem.W.kitAny K (.type (tyN d)) [.type "int", .type "list", .type "tuple"] = some (isIB d || isR d) := by
  have h0 := kb_int _ (tyN_mem d)
  have h1 := kb_list _ (tyN_mem d)
  have h2 := kb_tup _ (tyN_mem d)
  refine kitAny_cons (kit_ty h0) (fun z0 => kitAny_cons (kit_ty h1) (fun z => kitAny_cons (kit_ty h2) (fun z2 => ?_) fun z2 => ?_) fun z => ?_) fun z0 => ?_
  all_goals
    try revert z0
    try revert z
    try revert z2
    cases d <;> simp [tyN, isR, isIB, kitAny_nil]
theorem scal_eq {v u : V} {d : PyData} {H : Hp} (h : Dp K H v d) (h2 : Dp K H u d) (s : Scal d) : v = u ∧ scal v u = true := by
  cases d with
  | int i =>
    cases h; cases h2
    exact ⟨rfl, rfl⟩
  | bool b =>
    cases h; cases h2
    exact ⟨rfl, rfl⟩
  | str b =>
    cases h; cases h2
    exact ⟨rfl, rfl⟩
  | none => exact absurd s id
  | list l => exact absurd s id
  | tuple l => exact absurd s id
  | dict l => exact absurd s id
theorem same_core {J : It} {n : Nat} {m : PyData → Prop} {G : Hp → Prop} {xs ys : List V} {ds : List PyData} {σ : L2.St} {H1 : Hp} {D : Addr} {Q : VK} {x0 x1 : Option V} (hσ : σ = [x0, x1, none, none])
    (wk : Walk J n G (YPair (fun i => xs[i]?) (fun i => ys[i]?))) (hn : n = ds.length) (hx : DpAll K H1 xs ds) (hy : DpAll K H1 ys ds) (hl : ds.length ≤ 900) (sd : ∀ d ∈ ds, m d) (hG : ∀ H4, (∀ b o, b ≠ D → H1 b = some o → H4 b = some o) → G H4) (hD : H1 D = none)
    (q : ∀ H' p, Same H1 H' → H' p = some (.lst ((List.replicate ds.length true).map V.bl)) → Q (.ref p) H') : LcW J (gUV K) tYes (tCall (spSame K m) [] E00 (tCons (tVar 2) (tCons (tVar 3) tNil))) [2, 3] σ H1 D (fun H' => Q (.ref D) H') := by
  subst hσ
  refine lc_it wk (fun i H4 => (∀ b o, b ≠ D → H1 b = some o → H4 b = some o) ∧ H4 D = some (.lst ((List.replicate i true).map V.bl))) ⟨fun b o hb e => by rw [upd_ne hb]; exact e, by rw [upd_same]; rfl⟩ (fun i H4 _ ⟨kp, _⟩ => hG H4 kp) ?_ ?_
  · rintro i x H4 H4' hi ⟨kp, hD4⟩ ⟨TT, x', y', rfl, hT, rfl, hx', hy'⟩
    obtain ⟨di, hdi, hxd⟩ := dps_get hx hx'
    obtain ⟨di2, hdi2, hyd⟩ := dps_get hy hy'
    rw [hdi] at hdi2
    cases hdi2
    have s4 : Same H1 H4 := fun b o e => kp b o (ne_of_none e hD) e
    have s5 := s4.trans (same_new (o := .tup [x', y']) hT)
    refine ⟨TT, _, rfl, SqT.of upd_same, rfl, _, _, rfl, _, _, rfl, rfl, rfl, ?_⟩
    refine yes_go (iteT ⟨_, rfl, _, rfl, x', y', di, rfl, dp_same s5 hxd, dp_same s5 hyd, sd di (List.mem_of_getElem? hdi), fun H5 s6 => ⟨_, s6 _ _ ((same_new (o := .tup [x', y']) hT) _ _ hD4), ?_, fun b o hb e => ?_, ?_⟩⟩)
    · rw [List.length_map, List.length_replicate]
      exact small1000 (by omega)
    · rw [upd_ne hb]
      exact s6 _ _ ((same_new (o := .tup [x', y']) hT) _ _ (kp b o hb e))
    · rw [upd_same, List.replicate_succ', List.map_append]
      rfl
  · rintro H4 ⟨kp, hD4⟩
    rw [hn] at hD4
    exact q H4 D (fun b o e => kp b o (ne_of_none e hD) e) hD4
theorem rep_all (n : Nat) : (List.replicate n true).all id = true := by
  rw [List.all_eq_true]
  intro x hx
  rw [(List.mem_replicate.mp hx).2]
  rfl
theorem bb_ne {b : Bool} {A B : Prop} (h : B) : if (!decide (V.bl b = V.bl b)) = true then A else B := by
  rw [decide_eq_true rfl]
  exact h
theorem ok_same {f : Addr} {fd : FuncData} {n : PyData → Prop} {k : Nat} (F : Fun K "_law_same" "_law_same" sSame f fd) (T : Bi mg) (G : Has P w K mg base CX0 k "_law_same" ["found", "due"] (spSame K n)) : FnOk P w K mg base CX0 (k + 1) f fd ["found", "due"] (spSame K (SameS n)) := by
  refine F.ok scSame (fun vs H Q E h => ?_) (fun cdv A outer s H vs Q E hr h => ?_)
  · obtain ⟨v, u, d, rfl, _⟩ := h
    rfl
  · obtain ⟨v, u, d, rfl, hv, hu, sd, q⟩ := h
    have hu65' := hu65 hr
    refine ⟨_, (pss_cons (ps_if (pt_val (pe_callB call_isiT (by rfl) T.isinstance (by decide +kernel) (pa_cons (pv 1) (pa_cons (pe_tup (pa_cons (pe_bltn (v := .ty "list") (by rfl) T.list (by decide +kernel) rfl) (pa_cons (pe_bltn (v := .ty "tuple") (by rfl) T.tuple (by decide +kernel) rfl) pa_nil))) pa_nil)))) (pss_cons (ps_if (PW.pt (pw_or (pt_cmpR op_ne (pe_callB call_isi (by rfl) T.isinstance (by decide +kernel) (pa_cons (pv 0) (pa_cons (pe_bltn (v := .ty "list") (by rfl) T.list (by decide +kernel) rfl) pa_nil))) (pe_callB call_isi (by rfl) T.isinstance (by decide +kernel) (pa_cons (pv 1) (pa_cons (pe_bltn (v := .ty "list") (by rfl) T.list (by decide +kernel) rfl) pa_nil))) (nomark _)) (pw_or1 (pt_cmpR op_ne (pe_callB call_isi (by rfl) T.isinstance (by decide +kernel) (pa_cons (pv 0) (pa_cons (pe_bltn (v := .ty "tuple") (by rfl) T.tuple (by decide +kernel) rfl) pa_nil))) (pe_callB call_isi (by rfl) T.isinstance (by decide +kernel) (pa_cons (pv 1) (pa_cons (pe_bltn (v := .ty "tuple") (by rfl) T.tuple (by decide +kernel) rfl) pa_nil))) (nomark _))))) (pss_one (ps_ret pe_bl)) pss_nil)
      (pss_one (ps_ret (pe_and (pe_cmpR op_eq (pe_callB call_len_seq (by rfl) T.len (by decide +kernel) (pa_cons (pv 0) pa_nil)) (pe_callB call_len_seq (by rfl) T.len (by decide +kernel) (pa_cons (pv 1) pa_nil)) (nomark _)) (pe_one (pe_callB (cr_all rfl) (by rfl) T.all (by decide +kernel) (pa_cons (pe_lc (own := [("u", 2), ("v", 3)]) (g := gUV K) (tt := tYes) (te := tCall (spSame K n) [] E00 (tCons (tVar 2) (tCons (tVar 3) tNil))) rfl scSame.nd (RZ.pi_zipA (by rfl) T.zip (pa_cons (pv 0) (pa_cons (pv 1) pa_nil))) (blkOk_by (N := ["found", "due", "u", "v"]) (sc := defScope sSame) (by decide +kernel)) (fun _ _ _ _ _ => (pg_tup rfl (pgs_cons (pg_name (i := 2) scSame.nd rfl (.inl rfl) (.inr rfl)) (pgs_cons (pg_name (i := 3) scSame.nd rfl (.inl rfl) (.inr rfl)) pgs_nil)))) (fun _ _ _ _ _ => pts_nil) (fun _ _ _ _ _ => (pe_callH G hr (by rfl) pass0 (pa_cons (pv 2) (pa_cons (pv 3) pa_nil))))) pa_nil))))))) pss_nil)
      (pss_cons (ps_if (pt_val (pe_callB call_isi (by rfl) T.isinstance (by decide +kernel) (pa_cons (pv 1) (pa_cons (pe_bltn (v := .ty "int") (by rfl) T.int (by decide +kernel) rfl) pa_nil)))) (pss_one (ps_ret (pe_and (pe_callB call_isi (by rfl) T.isinstance (by decide +kernel) (pa_cons (pv 0) (pa_cons (pe_bltn (v := .ty "int") (by rfl) T.int (by decide +kernel) rfl) pa_nil))) (pe_and (pe_cmpR op_eq (pe_callB call_isi (by rfl) T.isinstance (by decide +kernel) (pa_cons (pv 0) (pa_cons (pe_bltn (v := .ty "bool") (by rfl) T.bool (by decide +kernel) rfl) pa_nil))) (pe_callB call_isi (by rfl) T.isinstance (by decide +kernel) (pa_cons (pv 1) (pa_cons (pe_bltn (v := .ty "bool") (by rfl) T.bool (by decide +kernel) rfl) pa_nil))) (nomark _)) (pe_one (pe_cmpR op_eq (pv 0) (pv 1) (nomark _))))))) pss_nil)
      (pss_one (ps_ret (pe_and (pe_cmpR op_isBl (pe_callB call_isiT (by rfl) T.isinstance (by decide +kernel) (pa_cons (pv 0) (pa_cons (pe_tup (pa_cons (pe_bltn (v := .ty "int") (by rfl) T.int (by decide +kernel) rfl) (pa_cons (pe_bltn (v := .ty "list") (by rfl) T.list (by decide +kernel) rfl) (pa_cons (pe_bltn (v := .ty "tuple") (by rfl) T.tuple (by decide +kernel) rfl) pa_nil)))) pa_nil))) pe_bl (nomark _)) (pe_one (pe_cmpR op_eq (pv 0) (pv 1) (nomark _)))))))), ?_⟩
    refine ⟨_, rfl, (by show 2 ≤ sizeLine; decide), fun p hp => ?_⟩
    have s1 := same_new (o := .tup [V.ty "list", V.ty "tuple"]) hp
    refine ⟨u, p, _, _, _, _, rfl, upd_same, .cons (.ty "list") (.cons (.ty "tuple") .nil), th_ty (.dat (dp_same s1 hu)), kit_row d, _, rfl, ?_⟩
    have hv1 := dp_same s1 hv
    have hu1 := dp_same s1 hu
    generalize hH1 : upd H p (.tup [V.ty "list", V.ty "tuple"]) = H1 at s1 hv1 hu1
    cases hrow : isR d with
    | true =>
      have seq : ∀ (ds : List PyData), items d = some ds → ds.length ≤ 900 → (∀ z ∈ ds, n z) → ∃ (a b : Addr) (xs ys : List V), v = .ref a ∧ u = .ref b ∧ DpAll K H1 xs ds ∧ DpAll K H1 ys ds ∧ ((SqL K H1 a xs ∧ SqL K H1 b ys) ∨ (SqT K H1 a xs ∧ SqT K H1 b ys)) := by
        intro ds e _ _
        cases d with
        | list ds' =>
          cases e
          cases hv1 with
          | lst s a =>
            cases hu1 with
            | lst s' a' => exact ⟨_, _, _, _, rfl, rfl, a, a', .inl ⟨s, s'⟩⟩
        | tuple ds' =>
          cases e
          cases hv1 with
          | tup s a =>
            cases hu1 with
            | tup s' a' => exact ⟨_, _, _, _, rfl, rfl, a, a', .inr ⟨s, s'⟩⟩
        | _ => cases e
      obtain ⟨ds, hds, l9, sds⟩ : ∃ ds, items d = some ds ∧ ds.length ≤ 900 ∧ ∀ z ∈ ds, n z := by
        cases d with
        | list ds => exact ⟨ds, rfl, sd.1, sd.2⟩
        | tuple ds => exact ⟨ds, rfl, sd.1, sd.2⟩
        | _ => cases hrow
      obtain ⟨a, b, xs, ys, rfl, rfl, ha, hb, hs⟩ := seq ds hds l9 sds
      refine iteT ⟨_, rfl, .ref a, _, _, _, _, rfl, .ty "list", th_ty (.dat hv1), kit_list1 d, _, rfl, .ref b, _, _, _, _, rfl, .ty "list", th_ty (.dat hu1), kit_list1 d, rfl, _, rfl, ?_⟩
      refine bb_ne ⟨_, rfl, .ref a, _, _, _, _, rfl, .ty "tuple", th_ty (.dat hv1), kit_tup1 d, _, rfl, .ref b, _, _, _, _, rfl, .ty "tuple", th_ty (.dat hu1), kit_tup1 d, rfl, _, rfl, ?_⟩
      have lx := dps_len ha
      have ly := dps_len hb
      refine bb_ne ⟨_, rfl, a, xs, rfl, hs.elim (fun h => .inl h.1) (fun h => .inr h.1), _, rfl, b, ys, rfl, hs.elim (fun h => .inl h.2) (fun h => .inr h.2), rfl, _, rfl, ?_⟩
      rw [lx, ly, decide_eq_true rfl]
      have fin : ∀ H' p, Same H1 H' → H' p = some (.lst ((List.replicate ds.length true).map V.bl)) → rAll K [.ref p] H' Q := fun H' p sm hp => by
        refine ⟨p, _, rfl, SqL.of hp, ?_⟩
        rw [rep_all]
        exact q H' (s1.trans sm)
      rcases hs with ⟨h1, h2⟩ | ⟨h1, h2⟩
      · refine iteT ⟨_, rfl, _, rfl, a, b, xs, ys, rfl, .inl ⟨h1, h2, fun D hD => ?_⟩⟩
        exact same_core (Q := fun v H' => rAll K [v] H' Q) rfl (walk_zip (n := ds.length) (by rw [lx, ly]; exact (Nat.min_self _).symm)) rfl ha hb l9 sds (fun H4 kp => ⟨sqL_same (fun b o e => kp b o (ne_of_none e hD) e) h1, sqL_same (fun b o e => kp b o (ne_of_none e hD) e) h2⟩) hD fin
      · refine iteT ⟨_, rfl, _, rfl, a, b, xs, ys, rfl, .inr ⟨h1, h2, fun D hD => ?_⟩⟩
        exact same_core (Q := fun v H' => rAll K [v] H' Q) rfl (walk_zipT (n := ds.length) (by rw [lx, ly]; exact (Nat.min_self _).symm)) rfl ha hb l9 sds (fun H4 kp => ⟨sqT_same (fun b o e => kp b o (ne_of_none e hD) e) h1, sqT_same (fun b o e => kp b o (ne_of_none e hD) e) h2⟩) hD fin
    | false =>
      have s0 : Scal d := by
        cases d with
        | int i => trivial
        | bool b => trivial
        | str b => trivial
        | list l => cases hrow
        | tuple l => cases hrow
        | none => exact absurd sd id
        | dict l => exact absurd sd id
      obtain ⟨rfl, sc⟩ := scal_eq hv hu s0
      refine iteF ⟨_, rfl, v, _, _, _, _, rfl, .ty "int", th_ty (.dat hu1), kit_int d, _, rfl, ?_⟩
      cases eib : isIB d with
      | true =>
        refine iteT ⟨_, rfl, v, _, _, _, _, rfl, .ty "int", th_ty (.dat hv1), kit_int d, _, rfl, ?_⟩
        rw [eib]
        refine iteT ⟨_, rfl, v, _, _, _, _, rfl, .ty "bool", th_ty (.dat hv1), kit_bool d, _, rfl, v, _, _, _, _, rfl, .ty "bool", th_ty (.dat hu1), kit_bool d, rfl, _, rfl, ?_⟩
        rw [decide_eq_true rfl]
        refine iteT ⟨_, rfl, _, rfl, sc, ?_⟩
        rw [decide_eq_true rfl]
        exact q H1 s1
      | false =>
        refine iteF ⟨_, rfl, (by show 3 ≤ sizeLine; decide), fun p2 hp2 => ?_⟩
        have s2 := same_new (o := .tup [V.ty "int", V.ty "list", V.ty "tuple"]) hp2
        refine ⟨v, p2, _, _, _, _, rfl, upd_same, .cons (.ty "int") (.cons (.ty "list") (.cons (.ty "tuple") .nil)), th_ty (.dat (dp_same s2 hv1)), kit_lt d, _, _, rfl, rfl, _, rfl, ?_⟩
        rw [eib, hrow]
        refine iteT ⟨_, rfl, _, rfl, sc, ?_⟩
        rw [decide_eq_true rfl]
        exact q _ (s1.trans s2)
theorem ok_same0 {f : Addr} {fd : FuncData} (F : Fun K "_law_same" "_law_same" sSame f fd) : FnOk P w K mg base CX0 1 f fd ["found", "due"] (spSame K fun _ => False) := by
  refine F.ok scSame (fun vs H Q E h => ?_) (fun cdv A outer s H vs Q E hr h => ?_)
  · obtain ⟨v, u, d, rfl, _⟩ := h
    rfl
  · obtain ⟨v, u, d, rfl, _, _, z, _⟩ := h
    exact absurd z id
end

theorem eqv_int (a b : Int) : PyData.eqv (.int a) (.int b) = decide (a = b) := by
  rw [PyData.eqv]
  by_cases h : a = b
  · subst h; simp
  · simp [h]
theorem eqv_ints : ∀ a b : List Int, PyData.eqv (.list (a.map .int)) (.list (b.map .int)) = decide (a = b)
  | [], [] => by simp [PyData.eqv, PyData.eqvAll]
  | [], _ :: _ => by simp [PyData.eqv, PyData.eqvAll]
  | _ :: _, [] => by simp [PyData.eqv, PyData.eqvAll]
  | x :: a, y :: b => by
    have ih := eqv_ints a b
    rw [PyData.eqv] at ih ⊢
    rw [List.map_cons, List.map_cons, PyData.eqvAll, ih, eqv_int]
    by_cases h : x = y
    · subst h; simp
    · simp [h]
theorem ints_lay : ∀ ks : List Int, PyData.canLayAll0 (ks.map .int) = true
  | [] => rfl
  | k :: ks => by
    rw [List.map_cons]
    simp [PyData.canLayAll0, PyData.canLay0, ints_lay ks]
theorem ints_depth : ∀ ks : List Int, PyData.depthAll (ks.map .int) ≤ 5
  | [] => by simp [PyData.depthAll]
  | k :: ks => by
    have h := ints_depth ks
    have h2 : (PyData.int k).depth ≤ 5 := by simp [PyData.depth]
    rw [List.map_cons]
    simp only [PyData.depthAll]
    omega
theorem ints_shaped (ks : List Int) : SeqAt.shaped (.list (ks.map .int)) = true := by
  unfold SeqAt.shaped
  have h := ints_depth ks
  have h1 := ints_lay ks
  rw [Bool.and_eq_true]
  refine ⟨by simpa [PyData.canLay0] using h1, decide_eq_true ?_⟩
  simp only [PyData.depth]
  omega
theorem dp_ints {K : PySem.W.Frag} {H : Hp} {a : Addr} {ks : List Int} (h : SqL K H a (ks.map V.int)) : Dp K H (.ref a) (.list (ks.map .int)) := .lst h (dps_ints ks)
/-! ### grown: the mathematics -/
/-- the far branches after n turns -/
def fars (rs : List Row) : Nat → List Nat
  | 0 => []
  | n + 1 => fars rs n ++ long (fN (outs rs ++ fars rs n)) rs
theorem fars_stop {rs : List Row} {n : Nat} (h : long (fN (outs rs ++ fars rs n)) rs = []) : ∀ m, fars rs (n + m) = fars rs n
  | 0 => rfl
  | m + 1 => by
    show fars rs (n + m) ++ long (fN (outs rs ++ fars rs (n + m))) rs = _
    rw [fars_stop h m, h, List.append_nil]
theorem fars_end {rs : List Row} {n m : Nat} (hn : long (fN (outs rs ++ fars rs n)) rs = []) (hm : long (fN (outs rs ++ fars rs m)) rs = []) : fars rs n = fars rs m := by
  rcases Nat.le_total n m with h | h
  · obtain ⟨d, rfl⟩ := Nat.exists_eq_add_of_le h
    exact (fars_stop hn d).symm
  · obtain ⟨d, rfl⟩ := Nat.exists_eq_add_of_le h
    exact fars_stop hm d
theorem tell_fars {rs : List Row} {far : List Nat} {ts : Tolds} (h : Tell rs far ts) : ∀ n, far = fars rs n → ∃ m, far ++ ts.map (·.1) = fars rs m ∧ long (fN (outs rs ++ fars rs m)) rs = [] := by
  induction h with
  | stop e =>
    intro n hn
    refine ⟨n, by rw [List.map_nil, List.append_nil]; exact hn, by rw [← hn]; exact e⟩
  | more e c t ih =>
    intro n hn
    obtain ⟨m, h1, h2⟩ := ih (n + 1) (by rw [hn]; rfl)
    refine ⟨m, ?_, h2⟩
    rw [← h1, List.map_append, c.1, List.append_assoc]
/-- such a list of far branches as the law grows: in order, those that lead out and those of n turns -/
def Grown (rs : List Row) (g : List Int) : Prop := ∃ n, g.Perm (zs (outs rs ++ fars rs n)) ∧ g.Pairwise (· ≤ ·) ∧ long (fN (outs rs ++ fars rs n)) rs = []
theorem mem_perm {a b : List Int} (h : a.Perm b) : mem a = mem b := by
  funext k
  unfold mem
  by_cases c : k ∈ a
  · rw [decide_eq_true c, decide_eq_true (h.mem_iff.mp c)]
  · rw [decide_eq_false c, decide_eq_false fun z => c (h.mem_iff.mpr z)]
theorem fN_mem2 (ks : List Nat) : fN ks = mem (zs ks) := rfl
theorem outs_sorted (rs : List Row) : (zs (outs rs)).Pairwise (· ≤ ·) := by
  unfold zs outs brs brsTo
  rw [List.pairwise_map]
  refine List.Pairwise.sublist (List.Sublist.trans (List.filter_sublist ..) (List.filter_sublist ..)) ?_
  exact List.pairwise_lt_range.imp fun h => by omega
theorem inn_sorted (rs : List Row) : (inn rs).Pairwise (· < ·) := by
  unfold inn innTo
  exact List.Pairwise.sublist (List.filter_sublist ..) List.pairwise_lt_range
theorem long_sub {f : Int → Bool} {rs : List Row} {k : Nat} (h : k ∈ long f rs) : k ∈ inn rs ∧ f (k : Nat) = false ∧ tooL (way f rs k) = true := by
  unfold long isLong at h
  obtain ⟨h1, h2⟩ := List.mem_filter.mp h
  rw [Bool.and_eq_true] at h2
  exact ⟨h1, by simpa using h2.1, h2.2⟩
theorem inn_not_outs {rs : List Row} {k : Nat} (h : k ∈ inn rs) : k ∉ outs rs := by
  intro z
  rw [← brs_inn] at h
  have h1 := (List.mem_filter.mp h).2
  have h2 := (List.mem_filter.mp z).2
  cases e : aim rs k with
  | none => rw [e] at h1; cases h1
  | some j => rw [e] at h2; cases h2
theorem fars_inn (rs : List Row) : ∀ n, ∀ k ∈ fars rs n, k ∈ inn rs
  | 0, k, h => by cases h
  | n + 1, k, h => by
    rcases List.mem_append.mp h with h | h
    · exact fars_inn rs n k h
    · exact (long_sub h).1
theorem fars_nodup (rs : List Row) : ∀ n, (fars rs n).Nodup
  | 0 => List.nodup_nil
  | n + 1 => by
    refine List.nodup_append.mpr ⟨fars_nodup rs n, ?_, fun a ha b hb e => ?_⟩
    · unfold long
      exact List.Nodup.sublist (List.filter_sublist ..) (inn_nodup rs)
    · have := (long_sub hb).2.1
      rw [fN_mem] at this
      exact of_decide_eq_false this (List.mem_append_right _ (by rw [← e]; exact ha))
theorem fars_rem (rs : List Row) : ∀ n, (fars rs n).length + (rem rs (fars rs n)).length = (rem rs []).length
  | 0 => by simp [fars]
  | n + 1 => by
    have h := rem_next rs (fars rs n)
    have ih := fars_rem rs n
    show (fars rs n ++ long (fN (outs rs ++ fars rs n)) rs).length + (rem rs (fars rs n ++ long (fN (outs rs ++ fars rs n)) rs)).length = _
    rw [List.length_append]
    omega
theorem fars_len (rs : List Row) (n : Nat) : (fars rs n).length ≤ (inn rs).length := by
  have h := fars_rem rs n
  have h1 : (rem rs []).length ≤ (inn rs).length := List.length_filter_le _ _
  omega
/-! ### the law's grown -/
abbrev sLGr : Stmt := topS 49
theorem scLGr : FnScope ["rows", "far"] ["rows"] (defScope sLGr) := ⟨rfl, rfl, rfl, by decide +kernel, rfl, by decide +kernel, by decide +kernel⟩
def spLGr (K : PySem.W.Frag) : Sp := fun vs H Q _ => ∃ (L : Addr) (xs : List V) (rs : List Row), vs = [.ref L] ∧ LRows K H L xs rs ∧ rs.length ≤ 20 ∧ noEven rs ∧ ∀ H' p g, Same H H' → SqT K H' p (g.map V.int) → Grown rs g → Q (.ref p) H'
section
variable {P : Program} {w : World} {K : PySem.W.Frag} {mg : Str → Option Value} {base : Heap}
theorem ok_lgr {f : Addr} {fd : FuncData} (F : Fun K "_law_grown" "_law_grown" sLGr f fd) (T : Bi mg) (G1 : Has P w K mg base CX0 3 "_law_outs" ["rows"] (spLOu K)) (G2 : Has P w K mg base CX0 3 "_law_long" ["rows", "far"] (spLLo K)) : FnOk P w K mg base CX0 4 f fd ["rows"] (spLGr K) := by
  refine F.ok scLGr (fun vs H Q E h => ?_) (fun cdv A outer s H vs Q E hr h => ?_)
  · obtain ⟨L, xs, rs, rfl, _⟩ := h
    rfl
  · obtain ⟨L, xs, rs, rfl, hR, hl20, nE, q⟩ := h
    have hu64 := hr.units
    refine ⟨_, (pss_cons (ps_set (i := 1) scLGr.nd rfl (.inl rfl) (pe_callH G1 hr (by rfl) pass0 (pa_cons (pv 0) pa_nil)))
      (pss_cons (ps_while PassesOwn.never (pt_cmpR (op_neD hu64) (pe_callH G2 hr (by rfl) pass0 (pa_cons (pv 0) (pa_cons (pv 1) pa_nil))) (pe_lst pa_nil) (nomark _)) (pss_one (ps_set (i := 1) scLGr.nd rfl (.inl rfl) (pe_callB cr_sortedQ (by rfl) T.sorted (by decide +kernel) (pa_cons (pe_op op_cat (pv 1) (pe_callH G2 hr (by rfl) pass0 (pa_cons (pv 0) (pa_cons (pv 1) pa_nil)))) pa_nil)))))
      (pss_one (ps_ret (pe_callTy call_tuple_of (by rfl) T.tuple (by decide +kernel) (pa_cons (pv 1) pa_nil)))))), ?_⟩
    refine ⟨_, rfl, L, xs, rs, rfl, hR, fun H1 O s1 _ hO => ?_⟩
    have il := inn_len rs
    have ol := outs_len rs
    refine ⟨fun m σ H4 => ∃ (a : Addr) (fs : List Int) (n : Nat), σ = [some (.ref L), some (.ref a)] ∧ Same H H4 ∧ H4 a = some (.lst (fs.map V.int)) ∧ fs.Perm (zs (outs rs ++ fars rs n)) ∧ fs.Pairwise (· ≤ ·) ∧ m = (rem rs (fars rs n)).length, ⟨_, O, zs (outs rs), 0, rfl, s1, by rw [hO, nats_zs], ?_, outs_sorted rs, rfl⟩, ?_⟩
    · show (zs (outs rs)).Perm (zs (outs rs ++ []))
      rw [List.append_nil]
    · rintro m σ H4 ⟨a, fs, n, rfl, s4, ha, pm, srt, rfl⟩
      refine ⟨_, rfl, _, rfl, L, a, xs, rs, fs, rfl, hR.same s4, nE, SqL.of ha, fun H5 p s5 _ hp => ⟨Nat.zero_le _, fun p2 hp2 => ?_⟩⟩
      have elg : long (mem fs) rs = long (fN (outs rs ++ fars rs n)) rs := by rw [mem_perm pm]; rfl
      rw [elg] at hp
      have s6 := s5.trans (same_new (o := .lst []) hp2)
      have hp6 := (same_new (o := .lst []) hp2) _ _ hp
      refine ⟨.list ((zs (long (fN (outs rs ++ fars rs n)) rs)).map .int), .list (([] : List Int).map .int), dp_ints (SqL.of (by rw [hp6, nats_zs])), .lst (SqL.of upd_same) .nil, ints_shaped _, ints_shaped [], _, rfl, ?_⟩
      rw [eqv_ints]
      have s46 := s4.trans s6
      have fl := fars_len rs n
      have ll : (long (fN (outs rs ++ fars rs n)) rs).length ≤ (inn rs).length := List.length_filter_le _ _
      have fsl : fs.length ≤ 40 := by
        rw [pm.length_eq, zs_len, List.length_append]
        omega
      by_cases hlg : zs (long (fN (outs rs ++ fars rs n)) rs) = []
      · rw [decide_eq_true hlg]
        have hlg' : long (fN (outs rs ++ fars rs n)) rs = [] := List.map_eq_nil_iff.mp hlg
        have ha6 := s6 _ _ ha
        exact iteF ⟨_, rfl, a, _, rfl, .inl ⟨SqL.of ha6, fun l hl => q _ l fs (s46.trans (same_new hl)) (SqT.of upd_same) ⟨n, pm, srt, hlg'⟩⟩⟩
      · rw [decide_eq_false hlg]
        refine iteT ⟨fun σ' H' => ∃ m', m' < (rem rs (fars rs n)).length ∧ ∃ (a : Addr) (fs : List Int) (n : Nat), σ' = [some (.ref L), some (.ref a)] ∧ Same H H' ∧ H' a = some (.lst (fs.map V.int)) ∧ fs.Perm (zs (outs rs ++ fars rs n)) ∧ fs.Pairwise (· ≤ ·) ∧ m' = (rem rs (fars rs n)).length, fun σ' H' h => h, ?_⟩
        refine ⟨_, rfl, _, rfl, _, rfl, L, a, xs, rs, fs, rfl, hR.same s46, nE, SqL.of (s6 _ _ ha), fun H7 p3 s7 _ hp3 => ?_⟩
        rw [elg] at hp3
        have ha7 := s7 _ _ (s6 _ _ ha)
        refine ⟨a, p3, _, _, rfl, rfl, ha7, hp3, ?_, fun p4 hp4 => ?_⟩
        · rw [nats_len, List.length_map]
          have : fs.length + (long (fN (outs rs ++ fars rs n)) rs).length ≤ 1000 := by omega
          exact Nat.le_trans this (by decide)
        refine ⟨p4, fs ++ zs (long (fN (outs rs ++ fars rs n)) rs), rfl, .inl (SqL.of (by rw [upd_same, nats_zs, List.map_append])), ?_, fun ns' p5 pm' srt' hp5 => ?_⟩
        · rw [List.length_append, zs_len]
          omega
        have nx := rem_next rs (fars rs n)
        have lpos : 0 < (long (fN (outs rs ++ fars rs n)) rs).length := by
          refine List.length_pos_iff.mpr fun z => hlg ?_
          rw [z]
          rfl
        refine ⟨(rem rs (fars rs (n + 1))).length, ?_, p5, ns', n + 1, rfl, ?_, upd_same, ?_, srt', rfl⟩
        · show (rem rs (fars rs n ++ long (fN (outs rs ++ fars rs n)) rs)).length < _
          omega
        · exact ((s46.trans s7).trans (same_new hp4)).trans (same_new hp5)
        · refine pm'.trans ((pm.append_right _).trans ?_)
          show (zs (outs rs ++ fars rs n) ++ zs (long (fN (outs rs ++ fars rs n)) rs)).Perm (zs (outs rs ++ (fars rs n ++ long (fN (outs rs ++ fars rs n)) rs)))
          unfold zs
          rw [← List.map_append, List.append_assoc]
end

def chainB (ns : List Int) : Bool := ((ns.zip (ns.drop 1)).map fun p => decide (p.1 < p.2)).all id
theorem ascB_chain (ns : List Int) : ascB ns = chainB ns := by
  unfold ascB ascN chainB
  rw [List.take_of_length_le]
  rw [List.length_zip]
  omega
theorem chain_cons (x y : Int) (l : List Int) : chainB (x :: y :: l) = (decide (x < y) && chainB (y :: l)) := rfl
theorem chain_iff : ∀ ns : List Int, chainB ns = true ↔ ns.Pairwise (· < ·)
  | [] => by simp [chainB]
  | [x] => by simp [chainB]
  | x :: y :: l => by
    rw [chain_cons, Bool.and_eq_true, chain_iff (y :: l)]
    constructor
    · rintro ⟨h1, h2⟩
      have h1 := of_decide_eq_true h1
      refine List.pairwise_cons.mpr ⟨fun z hz => ?_, h2⟩
      rcases List.mem_cons.mp hz with e | e
      · rw [e]; exact h1
      · exact Int.lt_trans h1 (List.rel_of_pairwise_cons h2 e)
    · intro h
      exact ⟨decide_eq_true (List.rel_of_pairwise_cons h (by simp)), h.of_cons⟩
theorem asc_iff (ns : List Int) : ascB ns = true ↔ ns.Pairwise (· < ·) := by
  rw [ascB_chain]
  exact chain_iff ns
theorem asc_unique : ∀ a b : List Int, a.Pairwise (· < ·) → b.Pairwise (· < ·) → (∀ k, k ∈ a ↔ k ∈ b) → a = b
  | [], [], _, _, _ => rfl
  | [], y :: b, _, _, h => by
    have := (h y).mpr (by simp)
    cases this
  | x :: a, [], _, _, h => by
    have := (h x).mp (by simp)
    cases this
  | x :: a, y :: b, ha, hb, h => by
    have e : x = y := by
      rcases List.mem_cons.mp ((h x).mp (by simp)) with e | e
      · exact e
      · rcases List.mem_cons.mp ((h y).mpr (by simp)) with e2 | e2
        · exact e2.symm
        · have h1 := List.rel_of_pairwise_cons hb e
          have h2 := List.rel_of_pairwise_cons ha e2
          omega
    subst e
    rw [asc_unique a b ha.of_cons hb.of_cons fun k => ?_]
    constructor
    · intro hk
      rcases List.mem_cons.mp ((h k).mp (List.mem_cons_of_mem _ hk)) with e | e
      · have := List.rel_of_pairwise_cons ha hk
        omega
      · exact e
    · intro hk
      rcases List.mem_cons.mp ((h k).mpr (List.mem_cons_of_mem _ hk)) with e | e
      · have := List.rel_of_pairwise_cons hb hk
        omega
      · exact e
theorem asc_set {ns ss : List Int} (hs : ss.Pairwise (· < ·)) (hm : ∀ k : Int, k ∈ ss ↔ decide (k ∈ ns) = true) : decide (ns = ss) = ascB ns := by
  by_cases h : ns.Pairwise (· < ·)
  · rw [(asc_iff ns).mpr h]
    exact decide_eq_true (asc_unique ns ss h hs fun k => by rw [hm k, decide_eq_true_iff])
  · have e : ascB ns = false := by
      cases c : ascB ns with
      | false => rfl
      | true => exact absurd ((asc_iff ns).mp c) h
    rw [e]
    exact decide_eq_false fun z => h (by rw [z]; exact hs)
theorem inn_iff {rs : List Row} {n : Int} : n ∈ zs (inn rs) ↔ n ∈ zs (brs rs) ∧ n ∉ zs (outs rs) := by
  rw [mem_zs, mem_zs, mem_zs]
  constructor
  · rintro ⟨k, hk, rfl⟩
    refine ⟨⟨k, ?_, rfl⟩, ?_⟩
    · rw [← brs_inn] at hk
      exact (List.mem_filter.mp hk).1
    · rintro ⟨j, hj, e⟩
      exact inn_not_outs hk (by rw [← Int.ofNat.inj e]; exact hj)
  · rintro ⟨⟨k, hk, rfl⟩, h2⟩
    refine ⟨k, ?_, rfl⟩
    rw [← brs_inn]
    refine List.mem_filter.mpr ⟨hk, ?_⟩
    cases e : aim rs k with
    | some j => rfl
    | none =>
      refine absurd ⟨k, ?_, rfl⟩ h2
      refine List.mem_filter.mpr ⟨hk, ?_⟩
      rw [e]
      rfl
def fit2 (d : PyData) : Prop := ∀ ds, items d = some ds → ds.length ≤ 50 ∧ ∀ z ∈ ds, ∀ es, items z = some es → ∀ o ∈ es, ∀ os, items o = some os → os.length ≤ 50
theorem fit2_T {d : PyData} (h : fit2 d) : fitT d := by
  intro ds e
  obtain ⟨a, b⟩ := h ds e
  refine ⟨by omega, fun z hz es ez o ho os eo => ?_⟩
  have := b z hz es ez o ho os eo
  omega
abbrev sLAre : Stmt := topS 52
abbrev NLA : List Str := ["rows", "thing", "outs", "known", "reason", "k", "others", "one"]
theorem scLAre : FnScope NLA ["rows", "thing"] (defScope sLAre) := ⟨rfl, rfl, rfl, by decide +kernel, rfl, by decide +kernel, by decide +kernel⟩
def spLAre (K : PySem.W.Frag) : Sp := fun vs H Q _ => ∃ (L : Addr) (xs : List V) (rs : List Row) (v : V) (d : PyData), vs = [.ref L, v] ∧ LRows K H L xs rs ∧ rs.length ≤ 20 ∧ noEven rs ∧ Th K H v d ∧ fit2 d ∧ ∀ H', Same H H' → Q (.bl (areB rs d)) H'
abbrev tOne (K : PySem.W.Frag) : TE := tAndV (tCall (spIsInt K) [] E00 (tCons (tVar 7) tNil)) (tOp (rIn K false) (tVar 7) (tOp rCat (tVar 3) (tVar 2)))
section
variable {P : Program} {w : World} {K : PySem.W.Frag} {mg : Str → Option Value} {base : Heap}
theorem ok_lare {f : Addr} {fd : FuncData} (F : Fun K "_law_are_reasons" "_law_are_reasons" sLAre f fd) (T : Bi mg) (G1 : Has P w K mg base CX0 3 "_law_outs" ["rows"] (spLOu K)) (G2 : Has P w K mg base CX0 3 "_law_branches" ["rows"] (spLBr K)) (G3 : Has P w K mg base CX0 3 "_law_long" ["rows", "far"] (spLLo K))
    (G4 : Has P w K mg base CX0 3 "_law_is_integer" ["thing"] (spIsInt K)) : FnOk P w K mg base CX0 4 f fd ["rows", "thing"] (spLAre K) := by
  refine F.ok scLAre (fun vs H Q E h => ?_) (fun cdv A outer s H vs Q E hr h => ?_)
  · obtain ⟨L, xs, rs, v, d, rfl, _⟩ := h
    rfl
  · obtain ⟨L, xs, rs, v, d, rfl, hR, hl20, nE, th, fit, q⟩ := h
    have hu64 := hr.units
    refine ⟨_, (pss_cons (ps_if (pt_not (pt_val (pe_callB call_isiT (by rfl) T.isinstance (by decide +kernel) (pa_cons (pv 1) (pa_cons (pe_tup (pa_cons (pe_bltn (v := .ty "list") (by rfl) T.list (by decide +kernel) rfl) (pa_cons (pe_bltn (v := .ty "tuple") (by rfl) T.tuple (by decide +kernel) rfl) pa_nil))) pa_nil))))) (pss_one (ps_ret pe_bl)) pss_nil)
      (pss_cons (ps_asg (pe_tup (pa_cons (pe_callH G1 hr (by rfl) pass0 (pa_cons (pv 0) pa_nil)) (pa_cons (pe_lst pa_nil) pa_nil))) (pg_tup rfl (pgs_cons (pg_name (i := 2) scLAre.nd rfl (.inr rfl)) (pgs_cons (pg_name (i := 3) scLAre.nd rfl (.inr rfl)) pgs_nil))))
      (pss_cons (ps_for PassesOwn.never rfl (pi_seq (pv 1)) (pg_name (i := 4) scLAre.nd rfl (.inl rfl)) (pss_cons (ps_if (PW.pt (pw_or (pt_not (pt_val (pe_callB call_isiT (by rfl) T.isinstance (by decide +kernel) (pa_cons (pv 4) (pa_cons (pe_tup (pa_cons (pe_bltn (v := .ty "list") (by rfl) T.list (by decide +kernel) rfl) (pa_cons (pe_bltn (v := .ty "tuple") (by rfl) T.tuple (by decide +kernel) rfl) pa_nil))) pa_nil))))) (pw_or (pt_cmpR op_ne (pe_callB call_len_seq (by rfl) T.len (by decide +kernel) (pa_cons (pv 4) pa_nil)) pe_int (nomark _)) (pw_or1 (pt_not (pt_val (pe_callH G4 hr (by rfl) pass0 (pa_cons (pe_ix ix_seq (pv 4) pe_int (fun _ _ => rfl)) pa_nil)))))))) (pss_one (ps_ret pe_bl)) pss_nil)
        (pss_cons (ps_asg (pv 4) (pg_seq rfl (pgs_cons (pg_name (i := 5) scLAre.nd rfl (.inl rfl)) (pgs_cons (pg_name (i := 6) scLAre.nd rfl (.inl rfl)) pgs_nil))))
        (pss_cons (ps_if (PW.pt (pw_or (pt_cmpR op_in_seq (pv 5) (pv 3) (by rfl)) (pw_or (pt_cmpR op_in_seq (pv 5) (pv 2) (by rfl)) (pw_or (pt_cmpR op_notIn_seq (pv 5) (pe_callH G2 hr (by rfl) pass0 (pa_cons (pv 0) pa_nil)) (by rfl)) (pw_or1 (pt_not (pt_val (pe_callB call_isiT (by rfl) T.isinstance (by decide +kernel) (pa_cons (pv 6) (pa_cons (pe_tup (pa_cons (pe_bltn (v := .ty "list") (by rfl) T.list (by decide +kernel) rfl) (pa_cons (pe_bltn (v := .ty "tuple") (by rfl) T.tuple (by decide +kernel) rfl) pa_nil))) pa_nil)))))))))) (pss_one (ps_ret pe_bl)) pss_nil)
        (pss_cons (ps_if (pt_not (pt_val (pe_callB (cr_all rfl) (by rfl) T.all (by decide +kernel) (pa_cons (pe_lc (own := [("one", 7)]) (g := gName 7) (tt := tYes) (te := tOne K) rfl scLAre.nd (pi_seq (pv 6)) (blkOk_by (N := NLA) (sc := defScope sLAre) (by decide +kernel)) (fun _ _ _ _ _ => pg_name (i := 7) scLAre.nd rfl (.inl rfl)) (fun _ _ _ _ _ => pts_nil) (fun _ _ _ _ _ => (pe_and (pe_callH G4 hr (by rfl) pass0 (pa_cons (pv 7) pa_nil)) (pe_one (pe_cmpR op_in_seq (pv 7) (pe_op op_cat (pv 3) (pv 2)) (by rfl)))))) pa_nil)))) (pss_one (ps_ret pe_bl)) pss_nil)
        (pss_cons (ps_if (PW.pt (pw_or (pt_cmpR (op_neD hu64) (pe_callTy call_list_of (by rfl) T.list (by decide +kernel) (pa_cons (pv 6) pa_nil)) (pe_callB (cr_sortedSet rfl) (by rfl) T.sorted (by decide +kernel) (pa_cons (pe_callTy (cr_setQ rfl) (by rfl) T.set (by decide +kernel) (pa_cons (pv 6) pa_nil)) pa_nil)) (nomark _)) (pw_or1 (pt_cmpR op_notIn_seq (pv 5) (pe_callH G3 hr (by rfl) pass0 (pa_cons (pv 0) (pa_cons (pe_op op_cat (pv 2) (pe_callTy call_list_of (by rfl) T.list (by decide +kernel) (pa_cons (pv 6) pa_nil))) pa_nil))) (by rfl))))) (pss_one (ps_ret pe_bl)) pss_nil)
        (pss_one (ps_expr (pe_bm PySem.F.plainAttrs_list PySem.F.slot_list_append PySem.F.type_list_append mt_append (pv 3) (pa_cons (pv 5) pa_nil))))))))))
      (pss_one (ps_ret pe_bl))))), ?_⟩
    have LT : ∀ {K : PySem.W.Frag} {Hx : Hp} {px : Addr} {o : HO}, Hx px = none → Same Hx (upd Hx px o) := fun h => same_new h
    refine ⟨_, rfl, (by show 2 ≤ sizeLine; decide), fun p hp => ?_⟩
    have s1 := same_new (o := .tup [V.ty "list", V.ty "tuple"]) hp
    refine ⟨v, p, _, _, _, _, rfl, upd_same, .cons (.ty "list") (.cons (.ty "tuple") .nil), th_ty (th_same s1 th), kit_row d, _, rfl, ?_⟩
    generalize hH1 : upd H p (.tup [V.ty "list", V.ty "tuple"]) = H1 at s1
    rw [isR_items]
    unfold areB at q
    cases e : items d with
    | none =>
      rw [e] at q
      exact iteT (q H1 s1)
    | some ds =>
    rw [e] at q
    have qq : ∀ H', Same H H' → Q (.bl (areL rs [] ds)) H' := q
    obtain ⟨f1, f2⟩ := fit ds e
    refine iteF ⟨_, rfl, L, xs, rs, rfl, hR.same s1, fun H2 O s2 _ hO => ⟨Nat.zero_le _, fun kn hkn => ⟨(by show 2 ≤ sizeLine; decide), fun p2 hp2 => ⟨p2, _, rfl, SqT.of upd_same, rfl, _, _, rfl, _, _, rfl, rfl, ?_⟩⟩⟩⟩
    have s02 := s1.trans s2
    have hknN : H kn = none := by
      cases e : H kn with
      | none => rfl
      | some u => rw [s02 _ _ e] at hkn; cases hkn
    have s3 := (same_new (o := .lst []) hkn).trans (same_new (o := .tup [V.ref O, V.ref kn]) hp2)
    have hk3 := (same_new (o := .tup [V.ref O, V.ref kn]) hp2) _ _ (upd_same (H := H2) (o := .lst []) (a := kn))
    have s03 := s02.trans s3
    have hO3 := s3 _ _ hO
    have nOk : O ≠ kn := ne_of_none hO hkn
    generalize hH3 : upd (upd H2 kn (.lst [])) p2 (.tup [V.ref O, V.ref kn]) = H3 at s3 hk3 s03 hO3
    obtain ⟨a, zq, rfl, hs, ha⟩ := th_row th e
    have lx := dps_len ha
    have ol := outs_len rs
    refine ⟨_, rfl, a, zq, rfl, hs.imp (sqL_same s03) (sqT_same s03), fun J Gd wk hG => ?_⟩
    refine for_it wk (fun i σ H4 => ∃ u1 u2 u3 : Option V, σ = [some (.ref L), some (.ref a), some (.ref O), some (.ref kn), u1, u2, u3, none] ∧ (∀ b o, b ≠ kn → H3 b = some o → H4 b = some o) ∧ ∃ ks : List Int, H4 kn = some (.lst (ks.map V.int)) ∧ ks.length = i ∧ areL rs [] ds = areL rs ks (ds.drop i))
      ⟨none, none, none, rfl, fun _ _ _ h => h, [], hk3, rfl, rfl⟩ ?_ ?_ ?_
    · rintro i σ H4 hi ⟨_, _, _, _, kp, ks, h4, hk, _⟩
      exact hG H4 (fun h => sqL_kp kp hk3 h4 (by rw [List.length_map]; omega) h) fun h => sqT_kp kp hk3 trivial h
    · rintro i y σ H4 H4' hi ⟨u1, u2, u3, rfl, kp, ks, h4, hk, hr⟩ ⟨rfl, hy⟩
      have s4 : Same H H4' := fun b o e => kp b o (ne_of_none e hknN) (s03 _ _ e)
      have hO4 := kp _ _ nOk hO3
      obtain ⟨di, hdi, hdp0⟩ := dps_get ha hy
      have hlt : i < ds.length := (List.getElem?_eq_some_iff.mp hdi).1
      have hdr : ds.drop i = di :: ds.drop (i + 1) := by
        rw [List.drop_eq_getElem_cons hlt]
        congr 1
        exact Option.some.inj (by rw [← hdi, List.getElem?_eq_getElem hlt])
      rw [hdr] at hr
      have hr' : areL rs [] ds = (isReasonB rs ks di && areL rs (ks ++ [kOf di]) (ds.drop (i + 1))) := hr
      have no : isReasonB rs ks di = false → ∀ {H' : Hp}, Same H4' H' → Q (.bl false) H' := fun z H' sx => by
        have := qq H' (s4.trans sx)
        rw [hr', z] at this
        exact this
      have hdp := dp_same s4 hdp0
      have f3 := f2 di (List.mem_of_getElem? hdi)
      refine ⟨_, rfl, (by show 2 ≤ sizeLine; decide), fun p3 hp3 => ?_⟩
      have s5 := same_new (o := .tup [V.ty "list", V.ty "tuple"]) hp3
      refine ⟨y, p3, _, _, _, _, rfl, upd_same, .cons (.ty "list") (.cons (.ty "tuple") .nil), th_ty (.dat (dp_same s5 hdp)), kit_row di, _, rfl, ?_⟩
      generalize hH5 : upd H4' p3 (.tup [V.ty "list", V.ty "tuple"]) = H5 at s5
      rw [isR_items]
      cases ei : items di with
      | none =>
        have z : isReasonB rs ks di = false := by
          unfold isReasonB
          rw [ei]
        exact iteT (iteT (no z s5))
      | some es =>
      obtain ⟨a2, xs2, rfl, hs2, ha2⟩ := th_row (.dat (dp_same s5 hdp)) ei
      refine iteF ⟨_, rfl, a2, xs2, rfl, hs2, rfl, _, rfl, ?_⟩
      rw [intEq, dps_len ha2]
      by_cases hl2 : es.length = 2
      · have e2 : decide ((es.length : Int) = 2) = true := decide_eq_true (by omega)
        rw [e2]
        obtain ⟨d0, d1, rfl⟩ : ∃ d0 d1, es = [d0, d1] := by
          match es, hl2 with
          | [a, b], _ => exact ⟨a, b, rfl⟩
        obtain ⟨v0, v1, rfl⟩ : ∃ v0 v1, xs2 = [v0, v1] := by
          have := dps_len ha2
          match xs2, this with
          | [a, b], _ => exact ⟨a, b, rfl⟩
        obtain ⟨h0, h1⟩ : Dp K H5 v0 d0 ∧ Dp K H5 v1 d1 := by
          cases ha2 with
          | cons g t =>
            cases t with
            | cons g2 t2 => exact ⟨g, g2⟩
        have ixs : ∀ {H2 : Hp} {i : Nat} {z : V} {R : VK}, Same H5 H2 → ([v0, v1] : List V)[i]? = some z → R z H2 → rIx K (.ref a2) (.int (i : Nat)) H2 R := fun {H2 i z R} s2 hz r => by
          rcases hs2 with hs | hs
          · exact .inl ⟨a2, _, _, _, rfl, rfl, sqL_same s2 hs, at_of hz, r⟩
          · exact .inr (.inl ⟨a2, _, _, _, rfl, rfl, sqT_same s2 hs, at_of hz, r⟩)
        refine iteF ⟨_, rfl, ixs (i := 0) (Same.refl H5) rfl ⟨v0, d0, rfl, .dat h0, _, rfl, ?_⟩⟩
        have er : isReasonB rs ks di = (isI d0 && (match items d1 with
          | some os => reasonB rs ks (intOf d0) os
          | none => false)) := by
          unfold isReasonB
          rw [ei]
          rfl
        cases d0 with
        | int k =>
          obtain rfl := dp_int h0
          refine iteF ⟨_, rfl, a2, _, rfl, hs2, rfl, _, _, rfl, _, _, rfl, rfl, ?_⟩
          have hk5 := s5 _ _ h4
          have hO5 := s5 _ _ hO4
          have s45 := s4.trans s5
          have hR5 := hR.same s45
          refine ⟨_, rfl, _, rfl, kn, _, rfl, .inl (SqL.of hk5), rfl, flat_ints ks, _, rfl, ?_⟩
          show if (inV (.int k) (ks.map V.int)) = true then _ else _
          rw [inV_ints]
          have er2 : isReasonB rs ks di = (match items d1 with
            | some os => reasonB rs ks k os
            | none => false) := er
          cases c1 : decide (k ∈ ks) with
          | true =>
            have z : isReasonB rs ks di = false := by
              rw [er2]
              cases items d1 with
              | none => rfl
              | some os =>
                show reasonB rs ks k os = false
                unfold reasonB
                rw [c1]
                cases decide (k ∈ zs (inn rs)) <;> rfl
            exact iteT (iteT (no z s5))
          | false =>
          refine iteF ⟨_, rfl, _, rfl, O, _, rfl, .inl (SqL.of hO5), rfl, (by rw [nats_zs]; exact flat_ints _), _, rfl, ?_⟩
          show if (inV (.int k) (nats (outs rs))) = true then _ else _
          rw [nats_zs, inV_ints]
          have zno : decide (k ∈ zs (inn rs)) = false → isReasonB rs ks di = false := fun c => by
            rw [er2]
            cases items d1 with
            | none => rfl
            | some os =>
              show reasonB rs ks k os = false
              unfold reasonB
              rw [c]
              rfl
          cases c2 : decide (k ∈ zs (outs rs)) with
          | true => exact iteT (iteT (no (zno (decide_eq_false fun z => (inn_iff.mp z).2 (of_decide_eq_true c2))) s5))
          | false =>
          refine iteF ⟨_, rfl, _, rfl, L, xs, rs, rfl, hR5, fun H6 Bq s6 _ hB => ⟨Bq, _, rfl, .inl (SqL.of hB), rfl, (by rw [nats_zs]; exact flat_ints _), _, rfl, ?_⟩⟩
          show if (!inV (.int k) (nats (brs rs))) = true then _ else _
          rw [nats_zs, inV_ints]
          have s56 := s5.trans s6
          cases c3 : decide (k ∈ zs (brs rs)) with
          | false => exact iteT (iteT (no (zno (decide_eq_false fun z => (of_decide_eq_false c3) (inn_iff.mp z).1)) s56))
          | true =>
          have ci : decide (k ∈ zs (inn rs)) = true := decide_eq_true (inn_iff.mpr ⟨of_decide_eq_true c3, of_decide_eq_false c2⟩)
          refine iteF ⟨_, rfl, (by show 2 ≤ sizeLine; decide), fun p7 hp7 => ?_⟩
          have s7 := same_new (o := .tup [V.ty "list", V.ty "tuple"]) hp7
          have h17 := dp_same (s6.trans s7) h1
          refine ⟨v1, p7, _, _, _, _, rfl, upd_same, .cons (.ty "list") (.cons (.ty "tuple") .nil), th_ty (.dat h17), kit_row d1, _, rfl, ?_⟩
          have s57 := s56.trans s7
          have s67 := s6.trans s7
          generalize hH7 : upd H6 p7 (.tup [V.ty "list", V.ty "tuple"]) = H7 at s7 h17 s57 s67
          rw [isR_items]
          cases eo : items d1 with
          | none =>
            have z : isReasonB rs ks di = false := by rw [er2, eo]
            exact iteT (no z s57)
          | some os =>
          rw [eo] at er2
          have er3 : isReasonB rs ks di = (os.all (okOther (zs (outs rs)) ks) && (ascB (intL os) && decide (k ∈ zs (long (mem (intL os ++ zs (outs rs))) rs)))) := by
            rw [er2]
            show reasonB rs ks k os = _
            unfold reasonB
            rw [ci, c1]
            rfl
          have lo : os.length ≤ 50 := f3 _ ei d1 (by simp) os eo
          obtain ⟨a1, zz, rfl, hz, hza⟩ := th_row (.dat h17) eo
          have lz := dps_len hza
          have hk7 := s67 _ _ hk5
          have hO7 := s67 _ _ hO5
          refine iteF ⟨_, rfl, a1, zz, rfl, hz, fun J1 Gd1 wk1 hG1 D hD => ?_⟩
          have os2 : ∀ {Hn : Hp}, (∀ b u, b ≠ D → H7 b = some u → Hn b = some u) → Same H7 Hn := fun kp b u e => kp b u (ne_of_none e hD) e
          have hkO : (ks.map V.int ++ nats (outs rs)) = (ks ++ zs (outs rs)).map V.int := by rw [nats_zs, List.map_append]
          refine lc_it wk1 (fun i Hn => (∀ b u, b ≠ D → H7 b = some u → Hn b = some u) ∧ Hn D = some (.lst (((os.take i).map (okOther (zs (outs rs)) ks)).map V.bl))) ⟨fun b u hb e => by rw [upd_ne hb]; exact e, upd_same⟩
            (fun i Hn _ ⟨kp, _⟩ => hG1 Hn (sqL_same (os2 kp)) (sqT_same (os2 kp))) ?_ ?_
          · rintro i1 y1 Hn Hn' hi1 ⟨kp1, hDn⟩ ⟨rfl, hy1⟩
            have sn := os2 kp1
            obtain ⟨dj, hdj, hjp⟩ := dps_get hza hy1
            have hlt1 : i1 < os.length := (List.getElem?_eq_some_iff.mp hdj).1
            have fin : ∀ {Hm : Hp} b, Same Hn' Hm → okOther (zs (outs rs)) ks dj = b → ∃ acc, Hm D = some (.lst acc) ∧ acc.length < sizeLine ∧ ((∀ c u, c ≠ D → H7 c = some u → upd Hm D (.lst (acc ++ [V.bl b])) c = some u) ∧ upd Hm D (.lst (acc ++ [V.bl b])) D = some (.lst (((os.take (i1 + 1)).map (okOther (zs (outs rs)) ks)).map V.bl))) := by
              intro Hm b sm hb
              refine ⟨_, sm _ _ hDn, ?_, fun c u hc e => ?_, ?_⟩
              · rw [List.length_map, List.length_map, List.length_take]
                exact small1000 (by omega)
              · rw [upd_ne hc]
                exact sm _ _ (kp1 c u hc e)
              · rw [upd_same, List.take_add_one, hdj, List.map_append, List.map_append]
                show _ = some (HO.lst (_ ++ [V.bl (okOther (zs (outs rs)) ks dj)]))
                rw [hb]
            refine ⟨rfl, yes_go (iteT ⟨_, rfl, y1, dj, rfl, .dat (dp_same sn hjp), _, rfl, ?_⟩)⟩
            cases dj with
            | int n =>
              obtain rfl := dp_int hjp
              refine iteT ⟨_, rfl, _, rfl, _, rfl, kn, O, _, _, rfl, rfl, sn _ _ hk7, sn _ _ hO7, ?_, fun p8 hp8 => ⟨p8, _, rfl, .inl (SqL.of upd_same), rfl, (by rw [hkO]; exact flat_ints _), ?_⟩⟩
              · rw [nats_len, List.length_map]
                have : ks.length + (outs rs).length ≤ 1000 := by omega
                exact Nat.le_trans this (by decide)
              have e5 : (if false = true then !inV (V.int n) (ks.map V.int ++ nats (outs rs)) else inV (V.int n) (ks.map V.int ++ nats (outs rs))) = decide (n ∈ ks ++ zs (outs rs)) := by
                rw [hkO]
                exact inV_ints _ _
              rw [e5]
              refine fin _ (same_new hp8) ?_
              show (decide (n ∈ zs (outs rs)) || decide (n ∈ ks)) = decide (n ∈ ks ++ zs (outs rs))
              by_cases m1 : n ∈ zs (outs rs)
              · rw [decide_eq_true m1, decide_eq_true (List.mem_append_right _ m1)]
                rfl
              · by_cases m2 : n ∈ ks
                · rw [decide_eq_true m2, decide_eq_true (List.mem_append_left _ m2), Bool.or_true]
                · rw [decide_eq_false m1, decide_eq_false m2, decide_eq_false fun z => (List.mem_append.mp z).elim m2 m1]
                  rfl
            | none => exact iteF (fin false (Same.refl _) rfl)
            | bool b => exact iteF (fin false (Same.refl _) rfl)
            | str b => exact iteF (fin false (Same.refl _) rfl)
            | list b => exact iteF (fin false (Same.refl _) rfl)
            | tuple b => exact iteF (fin false (Same.refl _) rfl)
            | dict b => exact iteF (fin false (Same.refl _) rfl)
          · rintro H8 ⟨kp8, hD8⟩
            have s78 := os2 kp8
            have s58 := s57.trans s78
            rw [lz, List.take_length] at hD8
            refine ⟨D, _, rfl, SqL.of hD8, _, rfl, ?_⟩
            have ea : (os.map (okOther (zs (outs rs)) ks)).all id = os.all (okOther (zs (outs rs)) ks) := by
              rw [List.all_map]
              rfl
            rw [ea]
            cases c5 : os.all (okOther (zs (outs rs)) ks) with
            | false =>
              rw [c5] at er3
              exact iteT (no er3 s58)
            | true =>
            rw [c5] at er3
            have ez : zz = (intL os).map V.int := dps_all hza c5
            have li : (intL os).length = os.length := List.length_map ..
            have hz8 : SqE K H8 a1 ((intL os).map V.int) := by
              rw [← ez]
              exact sqE_same s78 hz
            have hk8 := s78 _ _ hk7
            have hO8 := s78 _ _ hO7
            refine iteF ⟨_, rfl, a1, _, rfl, hz8, fun l1 hl1 => ?_⟩
            have t1 := same_new (o := .lst ((intL os).map V.int)) hl1
            have hl1' : upd H8 l1 (.lst ((intL os).map V.int)) l1 = some (.lst ((intL os).map V.int)) := upd_same
            generalize hH9 : upd H8 l1 (.lst ((intL os).map V.int)) = H9 at t1 hl1'
            refine ⟨_, rfl, a1, intL os, rfl, sqE_same t1 hz8, by omega, fun st c hc hst => ?_⟩
            refine ⟨st, _, c, rfl, upd_same, by omega, fun ss p9 hss hms _ hp9 => ?_⟩
            have t2 := (same_new (o := SetO w st (fun j => decide (j ∈ intL os)) c) hst).trans (same_new (o := .lst (ss.map V.int)) hp9)
            refine ⟨.list ((intL os).map .int), .list (ss.map .int), dp_ints (SqL.of (t2 _ _ hl1')), dp_ints (SqL.of upd_same), ints_shaped _, ints_shaped _, _, rfl, ?_⟩
            rw [eqv_ints, asc_set hss hms]
            have s89 := t1.trans t2
            cases c6 : ascB (intL os) with
            | false =>
              rw [c6] at er3
              exact iteT (iteT (no er3 (s58.trans s89)))
            | true =>
            rw [c6] at er3
            have s5a := s58.trans s89
            refine iteF ⟨_, rfl, _, rfl, _, rfl, _, rfl, a1, _, rfl, sqE_same s89 hz8, fun l2 hl2 => ?_⟩
            have t3 := same_new (o := .lst ((intL os).map V.int)) hl2
            refine ⟨O, l2, _, _, rfl, rfl, t3 _ _ (s89 _ _ hO8), upd_same, ?_, fun l3 hl3 => ?_⟩
            · rw [nats_len, List.length_map]
              have : (outs rs).length + (intL os).length ≤ 1000 := by omega
              exact Nat.le_trans this (by decide)
            have t4 := t3.trans (same_new (o := .lst (nats (outs rs) ++ (intL os).map V.int)) hl3)
            have s4b := s4.trans (s5a.trans t4)
            refine ⟨L, l3, xs, rs, zs (outs rs) ++ intL os, rfl, hR.same s4b, nE, SqL.of (by rw [upd_same, nats_zs, List.map_append]), fun Hc lL t5 _ hlL => ?_⟩
            have em : mem (zs (outs rs) ++ intL os) = mem (intL os ++ zs (outs rs)) := mem_perm List.perm_append_comm
            rw [em] at hlL
            refine ⟨lL, _, rfl, .inl (SqL.of hlL), rfl, (by rw [nats_zs]; exact flat_ints _), _, rfl, ?_⟩
            show if (!inV (.int k) (nats (long (mem (intL os ++ zs (outs rs))) rs))) = true then _ else _
            rw [nats_zs, inV_ints]
            have s5c := (s5a.trans t4).trans t5
            cases c7 : decide (k ∈ zs (long (mem (intL os ++ zs (outs rs))) rs)) with
            | false =>
              rw [c7] at er3
              exact iteT (no er3 s5c)
            | true =>
            rw [c7] at er3
            have er4 : isReasonB rs ks di = true := er3
            obtain ⟨k', o', os', e1, e2', e3, e4⟩ := isReason_pair er4
            rw [ei] at e1
            cases e1
            have hkc := t5 _ _ (t4 _ _ (s89 _ _ hk8))
            refine iteF ⟨_, rfl, .inl ⟨rfl, _, SqL.of hkc⟩, _, rfl, kn, _, _, rfl, rfl, hkc, ?_, _, _, _, rfl, fun b o hb eb => ?_, ks ++ [k], ?_, ?_, ?_⟩
            · rw [List.length_map]
              exact small1000 (by omega)
            · rw [upd_ne hb]
              exact s5c _ _ (kp b o hb eb)
            · rw [upd_same, List.map_append]
              rfl
            · rw [List.length_append, hk]
              rfl
            · rw [hr', er4, e4]
              rfl
        | none => exact iteT (no (by rw [er]; rfl) s5)
        | bool b => exact iteT (no (by rw [er]; rfl) s5)
        | str z => exact iteT (no (by rw [er]; rfl) s5)
        | list l => exact iteT (no (by rw [er]; rfl) s5)
        | tuple l => exact iteT (no (by rw [er]; rfl) s5)
        | dict l => exact iteT (no (by rw [er]; rfl) s5)
      · have e2 : decide ((es.length : Int) = 2) = false := decide_eq_false (by omega)
        rw [e2]
        have z : isReasonB rs ks di = false := by
          unfold isReasonB
          rw [ei]
          match es, hl2 with
          | [], _ => rfl
          | [a], _ => rfl
          | [a, b], h => exact absurd rfl h
          | a :: b :: c :: t, _ => rfl
        exact iteT (iteT (no z s5))
    · rintro σ H4 ⟨u1, u2, u3, rfl, kp, ks, h4, hk, hr⟩
      rw [lx, List.drop_length] at hr
      have s4 : Same H H4 := fun b o e => kp b o (ne_of_none e hknN) (s03 _ _ e)
      have z := qq H4 s4
      rw [hr] at z
      exact z
end

def pairD (t : Nat × List Int) : PyData := .tuple [.int (t.1 : Int), .tuple (t.2.map .int)]
theorem told_dps {K : PySem.W.Frag} {H : Hp} : ∀ {ys : List V} {ts : Tolds}, ToldV K H ys ts → DpAll K H ys (ts.map pairD)
  | _, _, .nil => .nil
  | _, _, .cons h t => by
    obtain ⟨a, b, rfl, h1, h2⟩ := h
    exact .cons (.tup h1 (.cons (.int _) (.cons (.tup h2 (dps_ints _)) .nil))) (told_dps t)
theorem intL_ints (ns : List Int) : intL (ns.map .int) = ns := by
  unfold intL
  rw [List.map_map]
  exact List.map_id' ns
theorem kOf_pair (t : Nat × List Int) : kOf (pairD t) = (t.1 : Int) := rfl
theorem zs_app (a b : List Nat) : zs (a ++ b) = zs a ++ zs b := List.map_append ..
theorem mem_z {k : Nat} {ks : List Nat} : (k : Int) ∈ zs ks ↔ k ∈ ks := by
  rw [mem_zs]
  constructor
  · rintro ⟨j, hj, e⟩
    rw [← Int.ofNat.inj e]
    exact hj
  · intro h
    exact ⟨k, h, rfl⟩
theorem zs_nodup {ks : List Nat} (h : ks.Nodup) : (zs ks).Nodup := by
  unfold zs
  rw [List.Nodup, List.pairwise_map]
  exact h.imp fun hne e => hne (Int.ofNat.inj e)
theorem strict_of {ns : List Int} (h : ns.Pairwise (· ≤ ·)) (nd : ns.Nodup) : ns.Pairwise (· < ·) :=
  (h.and nd).imp fun h => by
    have := h.1
    have := h.2
    omega
/-- one told reason is a reason -/
theorem told_one {rs : List Row} {far : List Nat} {pre : List Nat} {t : Nat × List Int} (nd : far.Nodup) (hk : t.1 ∈ long (fN (outs rs ++ far)) rs) (hp : t.1 ∉ pre) (pm : t.2.Perm (zs far)) (srt : t.2.Pairwise (· ≤ ·)) : isReasonB rs (zs (far ++ pre)) (pairD t) = true := by
  obtain ⟨k1, k2, k3⟩ := long_sub hk
  rw [fN_mem] at k2
  have k2 := of_decide_eq_false k2
  show reasonB rs (zs (far ++ pre)) (t.1 : Int) (t.2.map .int) = true
  unfold reasonB
  rw [intL_ints, decide_eq_true (mem_z.mpr k1)]
  have c2 : decide ((t.1 : Int) ∈ zs (far ++ pre)) = false := decide_eq_false fun z => by
    rcases List.mem_append.mp (mem_z.mp z) with z | z
    · exact k2 (List.mem_append_right _ z)
    · exact hp z
  have c3 : (t.2.map PyData.int).all (okOther (zs (outs rs)) (zs (far ++ pre))) = true := by
    rw [List.all_eq_true]
    intro x hx
    obtain ⟨n, hn, rfl⟩ := List.mem_map.mp hx
    have h1 : n ∈ zs far := pm.mem_iff.mp hn
    show (decide (n ∈ zs (outs rs)) || decide (n ∈ zs (far ++ pre))) = true
    rw [decide_eq_true (show n ∈ zs (far ++ pre) by rw [zs_app]; exact List.mem_append_left _ h1), Bool.or_true]
  have c4 : ascB t.2 = true := (asc_iff _).mpr (strict_of srt (pm.nodup_iff.mpr (zs_nodup nd)))
  have em : mem (t.2 ++ zs (outs rs)) = fN (outs rs ++ far) := by
    rw [fN_mem2, zs_app]
    exact mem_perm ((List.Perm.append_right _ pm).trans List.perm_append_comm)
  rw [c2, c3, c4, em, decide_eq_true (mem_z.mpr hk)]
  rfl
theorem told_chunk {rs : List Row} {far : List Nat} (nd : far.Nodup) (rest : List PyData) : ∀ (ts : Tolds) (pre : List Nat), (∀ t ∈ ts, t.1 ∈ long (fN (outs rs ++ far)) rs) → (pre ++ ts.map (·.1)).Nodup → (∀ t ∈ ts, t.2.Perm (zs far) ∧ t.2.Pairwise (· ≤ ·)) →
    areL rs (zs (far ++ pre)) (ts.map pairD ++ rest) = areL rs (zs (far ++ (pre ++ ts.map (·.1)))) rest
  | [], pre, _, _, _ => by rw [List.map_nil, List.map_nil, List.append_nil]; rfl
  | t :: ts, pre, h1, h2, h3 => by
    have hp : t.1 ∉ pre := fun z => (List.nodup_append.mp h2).2.2 t.1 z t.1 (by simp) rfl
    have one := told_one (pre := pre) nd (h1 t (by simp)) hp (h3 t (by simp)).1 (h3 t (by simp)).2
    have ih := told_chunk nd rest ts (pre ++ [t.1]) (fun x hx => h1 x (List.mem_cons_of_mem _ hx)) (by
      rw [List.append_assoc]
      exact h2) fun x hx => h3 x (List.mem_cons_of_mem _ hx)
    show (isReasonB rs (zs (far ++ pre)) (pairD t) && areL rs (zs (far ++ pre) ++ [kOf (pairD t)]) (ts.map pairD ++ rest)) = _
    rw [one, kOf_pair, Bool.true_and]
    have e : zs (far ++ pre) ++ [(t.1 : Int)] = zs (far ++ (pre ++ [t.1])) := by
      rw [← List.append_assoc, zs_app (far ++ pre)]
      rfl
    rw [e, ih, List.append_assoc]
    rfl
theorem tell_are {rs : List Row} {far : List Nat} {ts : Tolds} (h : Tell rs far ts) : ∀ n, far = fars rs n → areL rs (zs far) (ts.map pairD) = true := by
  induction h with
  | stop e => intro n hn; rfl
  | @more far ts rest e c t ih =>
    intro n hn
    have nd : far.Nodup := by rw [hn]; exact fars_nodup rs n
    have lnd : (long (fN (outs rs ++ far)) rs).Nodup := by
      unfold long
      exact List.Nodup.sublist (List.filter_sublist ..) (inn_nodup rs)
    have hc := told_chunk nd (rest.map pairD) ts [] (fun x hx => by rw [← c.1]; exact List.mem_map.mpr ⟨x, hx, rfl⟩) (by rw [List.nil_append, c.1]; exact lnd) c.2
    rw [List.append_nil, List.nil_append, c.1] at hc
    rw [List.map_append, hc]
    exact ih (n + 1) (by rw [hn]; rfl)
/-! ### growth is monotone -/
theorem rsize_mono {r : Row} {c c' : Int} {b b' : Bool} (hr : isEvR r = false) (hb : b = true → b' = true) : 0 ≤ rsize r c b ∧ rsize r c b ≤ rsize r c' b' := by
  cases r with
  | words n => exact ⟨Int.natCast_nonneg n, Int.le_refl _⟩
  | label s => exact ⟨Int.le_refl _, Int.le_refl _⟩
  | even n => cases hr
  | branch x n m =>
    cases b with
    | true => rw [hb rfl]; exact ⟨by show (0 : Int) ≤ 2; decide, by show (2 : Int) ≤ 2; decide⟩
    | false => cases b' <;> exact ⟨by show (0 : Int) ≤ 1; decide, by first | (show (1 : Int) ≤ 1; decide) | (show (1 : Int) ≤ 2; decide)⟩
theorem off_mono {f g : Int → Bool} {rs : List Row} (nE : noEven rs) (h : ∀ k, f k = true → g k = true) (i : Nat) : ∀ d, 0 ≤ off f rs (i + d) - off f rs i ∧ off f rs (i + d) - off f rs i ≤ off g rs (i + d) - off g rs i
  | 0 => by simp
  | d + 1 => by
    obtain ⟨h1, h2⟩ := off_mono nE h i d
    have ef : off f rs (i + (d + 1)) = off f rs (i + d) + (match rs[i + d]? with
      | some r => rsize r (off f rs (i + d)) (f ((i + d : Nat) : Int))
      | none => 0) := rfl
    have eg : off g rs (i + (d + 1)) = off g rs (i + d) + (match rs[i + d]? with
      | some r => rsize r (off g rs (i + d)) (g ((i + d : Nat) : Int))
      | none => 0) := rfl
    rw [ef, eg]
    cases e : rs[i + d]? with
    | none =>
      dsimp only
      omega
    | some r =>
      have hr := noEven_iff.mp nE r (List.mem_of_getElem? e)
      obtain ⟨a, b⟩ := rsize_mono (c := off f rs (i + d)) (c' := off g rs (i + d)) hr (h ((i + d : Nat) : Int))
      dsimp only
      omega
theorem tooL_iff (w : Int) : tooL w = true ↔ w < -256 ∨ w > 255 := by
  unfold tooL
  rw [Bool.or_eq_true, decide_eq_true_iff, decide_eq_true_iff]
theorem way_mono {f g : Int → Bool} {rs : List Row} {k : Nat} (nE : noEven rs) (h : ∀ k, f k = true → g k = true) (ht : tooL (way f rs k) = true) : tooL (way g rs k) = true := by
  rw [tooL_iff] at ht ⊢
  unfold way at ht ⊢
  generalize (aim rs k).getD 0 = j at ht ⊢
  rcases Nat.le_total j k with c | c
  · obtain ⟨d, rfl⟩ := Nat.exists_eq_add_of_le c
    obtain ⟨a, b⟩ := off_mono nE h j d
    omega
  · obtain ⟨d, rfl⟩ := Nat.exists_eq_add_of_le c
    obtain ⟨a, b⟩ := off_mono nE h k d
    omega
theorem acc_one {rs : List Row} {n : Nat} {ks : List Int} {d : PyData} (nE : noEven rs) (stop : long (fN (outs rs ++ fars rs n)) rs = []) (hks : ∀ k ∈ ks, k ∈ zs (fars rs n)) (h : isReasonB rs ks d = true) : kOf d ∈ zs (fars rs n) := by
  obtain ⟨k, o, os, e1, e2, e3, e4⟩ := isReason_pair h
  rw [e4]
  unfold reasonB at e3
  simp only [Bool.and_eq_true, decide_eq_true_iff] at e3
  obtain ⟨c1, c2, c3, c4, c5⟩ := e3
  obtain ⟨kk, hkk, rfl⟩ := mem_zs.mp c5
  obtain ⟨l1, l2, l3⟩ := long_sub hkk
  have le : ∀ j, mem (intL os ++ zs (outs rs)) j = true → fN (outs rs ++ fars rs n) j = true := by
    intro j hj
    have hj := of_decide_eq_true hj
    rw [fN_mem2, zs_app]
    refine decide_eq_true ?_
    rcases List.mem_append.mp hj with z | z
    · obtain ⟨x, hx, rfl⟩ := List.mem_map.mp z
      have := List.all_eq_true.mp c3 x hx
      rw [ok_isI this] at this
      have this : (decide (intOf x ∈ zs (outs rs)) || decide (intOf x ∈ ks)) = true := this
      rw [Bool.or_eq_true, decide_eq_true_iff, decide_eq_true_iff] at this
      rcases this with t | t
      · exact List.mem_append_left _ t
      · exact List.mem_append_right _ (hks _ t)
    · exact List.mem_append_left _ z
  have lg := way_mono nE le l3
  by_cases c : kk ∈ outs rs ++ fars rs n
  · rcases List.mem_append.mp c with c | c
    · exact absurd c (inn_not_outs l1)
    · exact mem_z.mpr c
  · have : kk ∈ long (fN (outs rs ++ fars rs n)) rs := by
      unfold long isLong
      refine List.mem_filter.mpr ⟨l1, ?_⟩
      rw [fN_mem, decide_eq_false c, lg]
      rfl
    rw [stop] at this
    cases this
theorem acc_all {rs : List Row} {n : Nat} (nE : noEven rs) (stop : long (fN (outs rs ++ fars rs n)) rs = []) : ∀ (ds : List PyData) (ks : List Int), (∀ k ∈ ks, k ∈ zs (fars rs n)) → areL rs ks ds = true → ∀ d ∈ ds, ∃ k o, items d = some [.int k, o] ∧ k ∈ zs (fars rs n)
  | [], _, _, _, d, hd => by cases hd
  | x :: ds, ks, hks, h, d, hd => by
    have h' : (isReasonB rs ks x && areL rs (ks ++ [kOf x]) ds) = true := h
    rw [Bool.and_eq_true] at h'
    have hx := acc_one nE stop hks h'.1
    rcases List.mem_cons.mp hd with e | e
    · rw [e]
      obtain ⟨k, o, os, e1, _, _, e4⟩ := isReason_pair h'.1
      exact ⟨k, o, e1, by rw [← e4]; exact hx⟩
    · refine acc_all nE stop ds (ks ++ [kOf x]) (fun k hk => ?_) h'.2 d e
      rcases List.mem_append.mp hk with z | z
      · exact hks k z
      · rw [List.mem_singleton.mp z]
        exact hx
/-- the branches that grown has and that do not lead out -/
structure Inner (rs : List Row) (g : List Int) : Prop where
  srt : g.Pairwise (· < ·)
  mems : ∃ n, (∀ k, k ∈ g ↔ k ∈ zs (fars rs n)) ∧ long (fN (outs rs ++ fars rs n)) rs = []
theorem grown_inner {rs : List Row} {g : List Int} (h : Grown rs g) : Inner rs (g.filter fun k => !decide (k ∈ zs (outs rs))) := by
  obtain ⟨n, pm, srt, stop⟩ := h
  have dis : ∀ k ∈ zs (fars rs n), k ∉ zs (outs rs) := by
    intro k hk z
    obtain ⟨j, hj, rfl⟩ := mem_zs.mp hk
    exact inn_not_outs (fars_inn rs n j hj) (mem_z.mp z)
  have nd : (zs (outs rs ++ fars rs n)).Nodup := by
    refine zs_nodup (List.nodup_append.mpr ⟨?_, fars_nodup rs n, fun a ha b hb e => ?_⟩)
    · exact List.Nodup.sublist (List.filter_sublist ..) (brs_nodup rs)
    · rw [e] at ha
      exact inn_not_outs (fars_inn rs n b hb) ha
  refine ⟨(strict_of srt (pm.nodup_iff.mpr nd)).sublist (List.filter_sublist ..), n, fun k => ?_, stop⟩
  rw [List.mem_filter, pm.mem_iff, zs_app, List.mem_append]
  constructor
  · rintro ⟨h1 | h1, h2⟩
    · rw [decide_eq_true h1] at h2
      cases h2
    · exact h1
  · intro h1
    exact ⟨.inr h1, by rw [decide_eq_false (dis k h1)]; rfl⟩
/-- what is told, sorted, is inner -/
theorem told_inner {rs : List Row} {g ss : List Int} {ts : Tolds} (hg : Inner rs g) (h : Tell rs [] ts) (hs : ss.Pairwise (· ≤ ·)) (pm : ss.Perm (zs (ts.map (·.1)))) : ss = g := by
  obtain ⟨m, e1, e2⟩ := tell_fars h 0 rfl
  rw [List.nil_append] at e1
  rw [e1] at pm
  obtain ⟨n, hm, stop⟩ := hg.mems
  refine asc_unique ss g (strict_of hs (pm.nodup_iff.mpr (zs_nodup (fars_nodup rs m)))) hg.srt fun k => ?_
  rw [hm k, pm.mem_iff, fars_end e2 stop]
/-- what is told has few far ones -/
theorem tell_len {rs : List Row} {far : List Nat} {ts : Tolds} (h : Tell rs far ts) : ∀ n, far = fars rs n → ts.length ≤ (inn rs).length ∧ ∀ t ∈ ts, t.2.length ≤ (inn rs).length := by
  intro n hn
  constructor
  · obtain ⟨m, e1, _⟩ := tell_fars h n hn
    have h1 := fars_len rs m
    rw [← e1, List.length_append, List.length_map] at h1
    omega
  · induction h generalizing n with
    | stop e => intro t ht; cases ht
    | more e c t ih =>
      intro x hx
      rcases List.mem_append.mp hx with z | z
      · rw [(c.2 x z).1.length_eq, hn, List.length_map]
        exact fars_len rs n
      · exact ih (n + 1) (by rw [hn]; rfl) x z

/-! ### what an expression makes -/
def dl (A : List Addr) (H : Hp) : Hp := fun b => if b ∈ A then none else H b
def OkA (A : List Addr) (H : Hp) : Prop := ∀ s ∈ A, H s ≠ none
theorem dl_sub {A : List Addr} {H : Hp} : Same (dl A H) H := fun b o e => by
  unfold dl at e
  split at e
  · cases e
  · exact e
theorem dl_out {A : List Addr} {H : Hp} {b : Addr} {o : HO} (hb : b ∉ A) (e : H b = some o) : dl A H b = some o := by
  unfold dl
  rw [if_neg hb]
  exact e
theorem dl_same {A : List Addr} {H H' : Hp} (e : Same H H') : Same (dl A H) (dl A H') := fun b o h => by
  unfold dl at h ⊢
  split at h
  · cases h
  · rename_i hb
    rw [if_neg hb]
    exact e _ _ h
theorem ok_same_A {A : List Addr} {H H' : Hp} (h : OkA A H) (e : Same H H') : OkA A H' := fun s hs z => by
  have := h s hs
  cases c : H s with
  | none => exact this c
  | some o => rw [e _ _ c] at z; cases z
theorem ok_not {A : List Addr} {H : Hp} {p : Addr} (ok : OkA A H) (hp : H p = none) : p ∉ A := fun z => ok p z hp
theorem dl_new {A : List Addr} {H : Hp} {p : Addr} {o : HO} (ok : OkA A H) (hp : H p = none) : dl A (upd H p o) p = some o := dl_out (ok_not ok hp) upd_same
theorem dl_upd {A : List Addr} {H : Hp} {s : Addr} {o : HO} (hs : s ∈ A) : dl A (upd H s o) = dl A H := by
  funext b
  unfold dl
  by_cases hb : b ∈ A
  · rw [if_pos hb, if_pos hb]
  · rw [if_neg hb, if_neg hb, upd_ne fun z => hb (by rw [z]; exact hs)]
theorem dl_weak {A : List Addr} {H : Hp} {s : Addr} : Same (dl (s :: A) H) (dl A H) := fun b o e => by
  unfold dl at e ⊢
  split at e
  · cases e
  · rename_i hb
    rw [if_neg fun z => hb (List.mem_cons_of_mem _ z)]
    exact e
/-- what stood ahead of s, apart from s -/
theorem dl_born {A : List Addr} {H H' : Hp} {s : Addr} (e : Same H H') (hs : H s = none) : Same (dl A H) (dl (s :: A) H') := fun b o h => by
  unfold dl at h ⊢
  split at h
  · cases h
  · rename_i hb
    have nb : b ≠ s := ne_of_none h hs
    rw [if_neg fun z => (List.mem_cons.mp z).elim nb hb]
    exact e _ _ h
def Mk (A : List Addr) (te : TE) (σ : L2.St) (H : Hp) (P : V → Hp → Prop) : Prop := ∀ Q : VK, (∀ v H', Same H H' → P v (dl A H') → Q v H') → te σ H Q
def fitO (d : PyData) : Prop := ∀ os, items d = some os → os.length ≤ 50
def fitE (d : PyData) : Prop := ∀ es, items d = some es → ∀ o ∈ es, fitO o
theorem fit2_of {d : PyData} (h : ∀ ds, items d = some ds → ds.length ≤ 50 ∧ ∀ z ∈ ds, fitE z) : fit2 d := fun ds e => ⟨(h ds e).1, fun z hz es ez o ho os eo => (h ds e).2 z hz es ez o ho os eo⟩
def O1 (K : PySem.W.Frag) (v : V) (H : Hp) : Prop := ∃ d, Dp K H v d ∧ fitO d
def E1 (K : PySem.W.Frag) (v : V) (H : Hp) : Prop := ∃ d, Dp K H v d ∧ fitE d
def TH (K : PySem.W.Frag) (v : V) (H : Hp) : Prop := ∃ d, Dp K H v d ∧ fit2 d
def LV (K : PySem.W.Frag) (n : Nat) (v : V) (H : Hp) : Prop := ∃ p zs ds, v = .ref p ∧ H p = some (.lst zs) ∧ DpAll K H zs ds ∧ ds.length ≤ n ∧ ∀ z ∈ ds, fitE z
def TW (K : PySem.W.Frag) (xs : List V) (v : V) (H : Hp) : Prop := ∃ b, v = .ref b ∧ SqT K H b xs
theorem O1.same {K : PySem.W.Frag} {v : V} {H H' : Hp} (h : O1 K v H) (e : Same H H') : O1 K v H' := h.imp fun _ x => ⟨dp_same e x.1, x.2⟩
theorem E1.same {K : PySem.W.Frag} {v : V} {H H' : Hp} (h : E1 K v H) (e : Same H H') : E1 K v H' := h.imp fun _ x => ⟨dp_same e x.1, x.2⟩
theorem TH.same {K : PySem.W.Frag} {v : V} {H H' : Hp} (h : TH K v H) (e : Same H H') : TH K v H' := h.imp fun _ x => ⟨dp_same e x.1, x.2⟩
theorem LV.same {K : PySem.W.Frag} {n : Nat} {v : V} {H H' : Hp} (h : LV K n v H) (e : Same H H') : LV K n v H' := by
  obtain ⟨p, zs, ds, a, b, c, d⟩ := h
  exact ⟨p, zs, ds, a, e _ _ b, dps_same e c, d⟩
theorem LV.th {K : PySem.W.Frag} {n : Nat} {v : V} {H : Hp} (h : LV K n v H) (hn : n ≤ 50) : TH K v H := by
  obtain ⟨p, zs, ds, rfl, b, c, d, e⟩ := h
  refine ⟨.list ds, .lst (SqL.of b) c, fit2_of fun es z => ?_⟩
  cases z
  exact ⟨by omega, e⟩
theorem TW.same {K : PySem.W.Frag} {xs : List V} {v : V} {H H' : Hp} (h : TW K xs v H) (e : Same H H') : TW K xs v H' := by
  obtain ⟨b, a, c⟩ := h
  exact ⟨b, a, sqT_same e c⟩
theorem TW.o1 {K : PySem.W.Frag} {xs : List V} {v : V} {H : Hp} {ds : List PyData} (h : TW K xs v H) (hd : DpAll K H xs ds) (hl : ds.length ≤ 50) : O1 K v H := by
  obtain ⟨b, rfl, c⟩ := h
  refine ⟨.tuple ds, .tup c hd, fun os z => ?_⟩
  cases z
  exact hl
theorem TW.ints {K : PySem.W.Frag} {ns : List Int} {v : V} {H : Hp} (h : TW K (ns.map V.int) v H) (hl : ns.length ≤ 50) : O1 K v H := h.o1 (dps_ints ns) (by rw [List.length_map]; exact hl)
theorem mk_to {A : List Addr} {te : TE} {σ : L2.St} {H : Hp} {P P' : V → Hp → Prop} (h : Mk A te σ H P) (hp : ∀ v H', P v H' → P' v H') : Mk A te σ H P' := fun Q q => h Q fun v H' s p => q v H' s (hp _ _ p)
theorem mk_c {A : List Addr} {v : V} {σ : L2.St} {H : Hp} {P : V → Hp → Prop} (h : P v (dl A H)) : Mk A (tC v) σ H P := fun Q q => q v H (Same.refl H) h
theorem mk_v {A : List Addr} {i : Nat} {v : V} {σ : L2.St} {H : Hp} {P : V → Hp → Prop} (hs : σ[i]? = some (some v)) (h : P v (dl A H)) : Mk A (tVar i) σ H P := fun Q q => ⟨v, hs, q v H (Same.refl H) h⟩
theorem dps_take {K : PySem.W.Frag} {H : Hp} : ∀ {vs : List V} {ds : List PyData} (i : Nat), DpAll K H vs ds → DpAll K H (vs.take i) (ds.take i)
  | _, _, 0, _ => .nil
  | _, _, _ + 1, .nil => .nil
  | _, _, i + 1, .cons x t => .cons x (dps_take i t)
theorem dps_drop {K : PySem.W.Frag} {H : Hp} : ∀ {vs : List V} {ds : List PyData} (i : Nat), DpAll K H vs ds → DpAll K H (vs.drop i) (ds.drop i)
  | _, _, 0, h => h
  | _, _, _ + 1, .nil => .nil
  | _, _, i + 1, .cons x t => dps_drop i t
theorem dps_app {K : PySem.W.Frag} {H : Hp} : ∀ {vs ws : List V} {ds es : List PyData}, DpAll K H vs ds → DpAll K H ws es → DpAll K H (vs ++ ws) (ds ++ es)
  | _, _, _, _, .nil, h => h
  | _, _, _, _, .cons x t, h => .cons x (dps_app t h)
theorem dps_rev {K : PySem.W.Frag} {H : Hp} : ∀ {vs : List V} {ds : List PyData}, DpAll K H vs ds → DpAll K H vs.reverse ds.reverse
  | _, _, .nil => .nil
  | _, _, .cons x t => by
    rw [List.reverse_cons, List.reverse_cons]
    exact dps_app (dps_rev t) (.cons x .nil)
section
variable {K : PySem.W.Frag} {A : List Addr} {σ : L2.St} {H : Hp}
theorem mk_cat {ta tb : TE} {n m : Nat} (ok : OkA A H) (ha : Mk A ta σ H (LV K n)) (hb : ∀ H', Same H H' → Mk A tb σ H' (LV K m)) (hl : n + m ≤ 1000) : Mk A (tOp rCat ta tb) σ H (LV K (n + m)) := by
  intro Q q
  refine ha _ fun x H1 s1 px => hb H1 s1 _ fun y H2 s2 py => ?_
  obtain ⟨p, zs, ds, rfl, a1, a2, a3, a4⟩ := px.same (dl_same s2)
  obtain ⟨p', zs', ds', rfl, b1, b2, b3, b4⟩ := py
  have lz := dps_len a2
  have lz' := dps_len b2
  refine ⟨p, p', zs, zs', rfl, rfl, dl_sub _ _ a1, dl_sub _ _ b1, ?_, fun r hr => ?_⟩
  · have : zs.length + zs'.length ≤ 1000 := by omega
    exact Nat.le_trans this (by decide)
  have s3 := same_new (o := .lst (zs ++ zs')) hr
  have d3 := dl_same (A := A) s3
  refine q (.ref r) _ ((s1.trans s2).trans s3) ⟨r, zs ++ zs', ds ++ ds', rfl, dl_new (ok_same_A ok (s1.trans s2)) hr, dps_app (dps_same d3 a2) (dps_same d3 b2), by rw [List.length_append]; omega, fun z hz => ?_⟩
  rcases List.mem_append.mp hz with h | h
  · exact a4 z h
  · exact b4 z h
theorem mk_cut {te : TE} {tl th : TO} {n : Nat} {l h : Option Int} (ok : OkA A H) (he : Mk A te σ H (LV K n)) (hl : ∀ H' Q, Q l H' → tl σ H' Q) (hh : ∀ H' Q, Q h H' → th σ H' Q) : Mk A (tSl (rSlL K) te tl th) σ H (LV K n) := by
  intro Q q
  refine he _ fun x H1 s1 px => hl _ _ (hh _ _ ?_)
  obtain ⟨p, zs, ds, rfl, a1, a2, a3, a4⟩ := px
  refine ⟨p, zs, rfl, SqL.of (dl_sub _ _ a1), fun r hr => ?_⟩
  have s3 := same_new (o := .lst (cutV zs l h)) hr
  refine q (.ref r) _ (s1.trans s3) ⟨r, _, (ds.drop (HT.sIx zs.length 0 l)).take (HT.sIx zs.length zs.length h - HT.sIx zs.length 0 l), rfl, dl_new (ok_same_A ok s1) hr, dps_same (dl_same s3) (dps_take _ (dps_drop _ a2)), ?_, fun z hz => ?_⟩
  · rw [List.length_take, List.length_drop]
    omega
  · exact a4 z (List.mem_of_mem_drop (List.mem_of_mem_take hz))
theorem mk_revL {te : TE} {n : Nat} (ok : OkA A H) (he : Mk A te σ H (LV K n)) : Mk A (tRevL K te) σ H (LV K n) := by
  intro Q q
  refine he _ fun x H1 s1 px => ?_
  obtain ⟨p, zs, ds, rfl, a1, a2, a3, a4⟩ := px
  refine ⟨p, zs, rfl, SqL.of (dl_sub _ _ a1), fun r hr => ?_⟩
  have s3 := same_new (o := .lst zs.reverse) hr
  exact q (.ref r) _ (s1.trans s3) ⟨r, _, ds.reverse, rfl, dl_new (ok_same_A ok s1) hr, dps_same (dl_same s3) (dps_rev a2), by rw [List.length_reverse]; exact a3, fun z hz => a4 z (List.mem_reverse.mp hz)⟩
theorem mk_lst1 {te : TE} (ok : OkA A H) (he : Mk A te σ H (E1 K)) : Mk A (tLst (tCons te tNil)) σ H (LV K 1) := by
  intro Q q
  refine he _ fun x H1 s1 px => ⟨(by show 1 ≤ sizeLine; decide), fun r hr => ?_⟩
  have s3 := same_new (o := .lst [x]) hr
  obtain ⟨d, h1, h2⟩ := px.same (dl_same (A := A) s3)
  refine q (.ref r) _ (s1.trans s3) ⟨r, [x], [d], rfl, dl_new (ok_same_A ok s1) hr, .cons h1 .nil, Nat.le_refl _, fun z hz => ?_⟩
  rw [List.mem_singleton.mp hz]
  exact h2
theorem mk_tup0 (ok : OkA A H) {ds : List PyData} (hds : ds = []) : Mk A (tTup tNil) σ H (fun v H' => Dp K H' v (.tuple ds)) := by
  intro Q q
  subst hds
  refine ⟨Nat.zero_le _, fun r hr => ?_⟩
  have s3 := same_new (o := .tup []) hr
  exact q (.ref r) _ s3 (.tup (SqT.of (dl_new ok hr)) .nil)
theorem mk_tup1 {ta : TE} (ok : OkA A H) (ha : Mk A ta σ H (O1 K)) : Mk A (tTup (tCons ta tNil)) σ H (E1 K) := by
  intro Q q
  refine ha _ fun x H1 s1 px => ⟨(by show 1 ≤ sizeLine; decide), fun r hr => ?_⟩
  have s3 := same_new (o := .tup [x]) hr
  obtain ⟨d, h1, h2⟩ := px.same (dl_same (A := A) s3)
  refine q (.ref r) _ (s1.trans s3) ⟨.tuple [d], .tup (SqT.of (dl_new (ok_same_A ok s1) hr)) (.cons h1 .nil), fun es e o ho => ?_⟩
  cases e
  rw [List.mem_singleton.mp ho]
  exact h2
theorem mk_tup2 {ta tb : TE} (ok : OkA A H) (ha : Mk A ta σ H (O1 K)) (hb : ∀ H', Same H H' → Mk A tb σ H' (O1 K)) : Mk A (tTup (tCons ta (tCons tb tNil))) σ H (E1 K) := by
  intro Q q
  refine ha _ fun x H1 s1 px => hb H1 s1 _ fun y H2 s2 py => ⟨(by show 2 ≤ sizeLine; decide), fun r hr => ?_⟩
  have s3 := same_new (o := .tup [x, y]) hr
  obtain ⟨d, h1, h2⟩ := (px.same (dl_same (A := A) s2)).same (dl_same (A := A) s3)
  obtain ⟨e, h3, h4⟩ := py.same (dl_same (A := A) s3)
  refine q (.ref r) _ ((s1.trans s2).trans s3) ⟨.tuple [d, e], .tup (SqT.of (dl_new (ok_same_A ok (s1.trans s2)) hr)) (.cons h1 (.cons h3 .nil)), fun es z o ho => ?_⟩
  cases z
  rcases List.mem_cons.mp ho with w | w
  · rw [w]; exact h2
  · rw [List.mem_singleton.mp w]; exact h4
theorem mk_tw1 {ta : TE} {v : V} (ok : OkA A H) (ha : Mk A ta σ H fun x _ => x = v) : Mk A (tTup (tCons ta tNil)) σ H (TW K [v]) := by
  intro Q q
  refine ha _ fun x H1 s1 px => ⟨(by show 1 ≤ sizeLine; decide), fun r hr => ?_⟩
  subst px
  exact q (.ref r) _ (s1.trans (same_new hr)) ⟨r, rfl, SqT.of (dl_new (ok_same_A ok s1) hr)⟩
theorem mk_catT {ta tb : TE} {xs ys : List V} (ok : OkA A H) (ha : Mk A ta σ H (TW K xs)) (hb : ∀ H', Same H H' → Mk A tb σ H' (TW K ys)) (hl : xs.length + ys.length ≤ 1000) : Mk A (tOp (rCatA K) ta tb) σ H (TW K (xs ++ ys)) := by
  intro Q q
  refine ha _ fun x H1 s1 px => hb H1 s1 _ fun y H2 s2 py => ?_
  obtain ⟨a, rfl, ha⟩ := px.same (dl_same s2)
  obtain ⟨b, rfl, hb⟩ := py
  have s12 := s1.trans s2
  refine ⟨a, b, xs, ys, rfl, rfl, sqT_same dl_sub ha, sqT_same dl_sub hb, Nat.le_trans hl (by decide), fun z => ?_, fun z1 z => ?_, fun _ _ r hr => ?_⟩
  · exact q _ _ s12 ⟨b, rfl, by rw [z, List.nil_append]; exact hb⟩
  · exact q _ _ s12 ⟨a, rfl, by rw [z, List.append_nil]; exact ha⟩
  · exact q _ _ (s12.trans (same_new hr)) ⟨r, rfl, SqT.of (dl_new (ok_same_A ok s12) hr)⟩
theorem mk_revT {te : TE} {xs : List V} (ok : OkA A H) (he : Mk A te σ H (TW K xs)) : Mk A (tRevT K te) σ H (TW K xs.reverse) := by
  intro Q q
  refine he _ fun x H1 s1 px => ?_
  obtain ⟨a, rfl, ha⟩ := px
  exact ⟨a, xs, rfl, sqT_same dl_sub ha, fun r hr => q _ _ (s1.trans (same_new hr)) ⟨r, rfl, SqT.of (dl_new (ok_same_A ok s1) hr)⟩⟩
end

theorem cut_ints (ns : List Int) (l h : Option Int) : ∃ ms : List Int, cutV (ns.map V.int) l h = ms.map V.int ∧ ms.length ≤ ns.length := by
  refine ⟨(ns.drop (HT.sIx (ns.map V.int).length 0 l)).take (HT.sIx (ns.map V.int).length (ns.map V.int).length h - HT.sIx (ns.map V.int).length 0 l), ?_, ?_⟩
  · unfold cutV
    rw [List.map_take, List.map_drop]
  · rw [List.length_take, List.length_drop]
    omega
section
variable {K : PySem.W.Frag} {A : List Addr} {σ : L2.St} {H : Hp}
theorem mk_cutT {te : TE} {tl th : TO} {xs : List V} {l h : Option Int} (ok : OkA A H) (he : Mk A te σ H (TW K xs)) (hl : ∀ H' Q, Q l H' → tl σ H' Q) (hh : ∀ H' Q, Q h H' → th σ H' Q) : Mk A (tSl (rSlA K) te tl th) σ H (TW K (cutV xs l h)) := by
  intro Q q
  refine he _ fun x H1 s1 px => hl _ _ (hh _ _ ?_)
  obtain ⟨a, rfl, ha⟩ := px
  refine ⟨a, xs, rfl, sqT_same dl_sub ha, fun z => q _ _ s1 ⟨a, rfl, ?_⟩, fun _ r hr => q _ _ (s1.trans (same_new hr)) ⟨r, rfl, SqT.of (dl_new (ok_same_A ok s1) hr)⟩⟩
  have e : cutV xs l h = xs := by
    unfold cutV
    rw [z.1, z.2, List.drop_zero, Nat.sub_zero, List.take_length]
  rw [e]
  exact ha
def MkA (A : List Addr) (t : TA) (σ : L2.St) (H : Hp) (P : V → Hp → Prop) (n : Nat) : Prop := ∀ Q : List V → Hp → Prop, (∀ xs H', Same H H' → xs.length = n → (∀ x ∈ xs, P x (dl A H')) → Q xs H') → t σ H Q
theorem mka_nil {P : V → Hp → Prop} : MkA A tNil σ H P 0 := fun Q q => q [] H (Same.refl H) rfl fun x hx => by cases hx
theorem mka_cons {te : TE} {t : TA} {P : V → Hp → Prop} {n : Nat} (mono : ∀ v H H', P v H → Same H H' → P v H') (ha : Mk A te σ H P) (hb : ∀ H', Same H H' → MkA A t σ H' P n) : MkA A (tCons te t) σ H P (n + 1) := by
  intro Q q
  refine ha _ fun x H1 s1 px => hb H1 s1 _ fun xs H2 s2 hl hx => q (x :: xs) H2 (s1.trans s2) (by rw [List.length_cons, hl]) fun y hy => ?_
  rcases List.mem_cons.mp hy with e | e
  · rw [e]
    exact mono _ _ _ px (dl_same s2)
  · exact hx y e
/-- one of a list just made -/
theorem mk_lstIx {t : TA} {ti : TE} {P : V → Hp → Prop} {n : Nat} {i : Int} (ok : OkA A H) (mono : ∀ v H H', P v H → Same H H' → P v H') (ht : MkA A t σ H P n) (hn : n ≤ 900) (hi : ∀ H', Same H H' → Mk A ti σ H' fun x _ => x = .int i) (h0 : 0 ≤ i) (h1 : i < (n : Int)) : Mk A (tOp (rIxL K) (tLst t) ti) σ H P := by
  intro Q q
  refine ht _ fun xs H1 s1 hl hx => ⟨Nat.le_of_lt (small1000 (by omega)), fun r hr => hi _ (s1.trans (same_new hr)) _ fun y H2 s2 hy => ?_⟩
  subst hy
  obtain ⟨m, rfl⟩ := Int.eq_ofNat_of_zero_le h0
  have hm : m < xs.length := by omega
  have s3 := (same_new (o := .lst xs) hr).trans s2
  refine ⟨r, xs, _, xs[m], rfl, rfl, SqL.of (s2 _ _ upd_same), at_of (List.getElem?_eq_getElem hm), q _ _ (s1.trans s3) (mono _ _ _ (hx _ (List.getElem_mem hm)) (dl_same s3))⟩
end
/-- where bent stands -/
structure BC (K : PySem.W.Frag) (A : List Addr) (a b bo : Addr) (at' : Int) (ns : List Int) (d0 d1 d2 : Int) (H : Hp) : Prop where
  tv : ∃ ys ts, dl A H a = some (.lst ys) ∧ ToldV K (dl A H) ys ts ∧ ts.length ≤ 20 ∧ (∀ t ∈ ts, t.2.length ≤ 20) ∧ ∃ y, atI ys at' = some y ∧ E1 K y (dl A H)
  oth : SqT K (dl A H) bo (ns.map V.int)
  nl : ns.length ≤ 20
  dr : SqL K (dl A H) b [.int d0, .int d1, .int d2]
  ok : OkA A H
theorem BC.same {K : PySem.W.Frag} {A : List Addr} {a b bo : Addr} {at' : Int} {ns : List Int} {d0 d1 d2 : Int} {H H' : Hp} (h : BC K A a b bo at' ns d0 d1 d2 H) (e : Same H H') : BC K A a b bo at' ns d0 d1 d2 H' := by
  have e2 := dl_same (A := A) e
  obtain ⟨ys, ts, h1, h2, h3, h4, y, h5, h6⟩ := h.tv
  exact ⟨⟨ys, ts, e2 _ _ h1, told_of (fun a xs h => sqT_same e2 h) h2, h3, h4, y, h5, h6.same e2⟩, sqT_same e2 h.oth, h.nl, sqL_same e2 h.dr, ok_same_A h.ok e⟩
theorem pair_fitE {t : Nat × List Int} (h : t.2.length ≤ 20) : fitE (pairD t) := by
  intro es e o ho os eo
  cases e
  rcases List.mem_cons.mp ho with w | w
  · rw [w] at eo
    cases eo
  · rw [List.mem_singleton.mp w] at eo
    cases eo
    rw [List.length_map]
    omega
theorem told_LV {K : PySem.W.Frag} {H : Hp} {a : Addr} {ys : List V} {ts : Tolds} (h1 : H a = some (.lst ys)) (h2 : ToldV K H ys ts) (h3 : ts.length ≤ 20) (h4 : ∀ t ∈ ts, t.2.length ≤ 20) : LV K 20 (.ref a) H := by
  refine ⟨a, ys, ts.map pairD, rfl, h1, told_dps h2, by rw [List.length_map]; exact h3, fun z hz => ?_⟩
  obtain ⟨t, ht, rfl⟩ := List.mem_map.mp hz
  exact pair_fitE (h4 t ht)
abbrev sigB (a b bo : Addr) (at' k : Int) (u : Option V) : L2.St := [some (.ref a), some (.ref b), some (.int at'), some (.int k), some (.ref bo), u]
abbrev tA1 (K : PySem.W.Frag) : TE := tSl (rSlL K) (tVar 0) tNoPart (tPart (tVar 2))
abbrev tB1 (K : PySem.W.Frag) : TE := tSl (rSlL K) (tVar 0) (tPart (tOp (rI0 fun i j => .int (i + j)) (tVar 2) (tC (.int 1)))) tNoPart
abbrev tD (K : PySem.W.Frag) (i : Int) : TE := tOp (rIxL K) (tVar 1) (tC (.int i))
section
variable {K : PySem.W.Frag} {A : List Addr} {a b bo : Addr} {at' k : Int} {ns : List Int} {d0 d1 d2 : Int} {H : Hp} {u : Option V}
theorem BC.toldM (B : BC K A a b bo at' ns d0 d1 d2 H) : Mk A (tVar 0) (sigB a b bo at' k u) H (LV K 20) := by
  obtain ⟨ys, ts, h1, h2, h3, h4, _⟩ := B.tv
  exact mk_v rfl (told_LV h1 h2 h3 h4)
theorem BC.cutA (B : BC K A a b bo at' ns d0 d1 d2 H) : Mk A (tA1 K) (sigB a b bo at' k u) H (LV K 20) := mk_cut (l := none) (h := some at') B.ok B.toldM (fun _ _ q => q) fun _ _ q => ⟨_, rfl, _, rfl, q⟩
theorem BC.cutB (B : BC K A a b bo at' ns d0 d1 d2 H) : Mk A (tB1 K) (sigB a b bo at' k u) H (LV K 20) := mk_cut (l := some (at' + 1)) (h := none) B.ok B.toldM (fun _ _ q => ⟨_, rfl, _, _, rfl, rfl, _, rfl, q⟩) fun _ _ q => q
theorem BC.kM (B : BC K A a b bo at' ns d0 d1 d2 H) : Mk A (tVar 3) (sigB a b bo at' k u) H (O1 K) := mk_v rfl ⟨.int k, .int k, fun os e => by cases e⟩
theorem BC.oM (B : BC K A a b bo at' ns d0 d1 d2 H) : Mk A (tVar 4) (sigB a b bo at' k u) H (TW K (ns.map V.int)) := mk_v rfl ⟨bo, rfl, B.oth⟩
theorem BC.d2M (B : BC K A a b bo at' ns d0 d1 d2 H) : Mk A (tD K 2) (sigB a b bo at' k u) H fun x _ => x = .int d2 := fun Q q => ⟨_, rfl, b, _, _, _, rfl, rfl, sqL_same dl_sub B.dr, at_of (i := 2) rfl, q _ _ (Same.refl H) rfl⟩
theorem BC.d0M (B : BC K A a b bo at' ns d0 d1 d2 H) : Mk A (tD K 0) (sigB a b bo at' k u) H fun x _ => x = .int d0 := fun Q q => ⟨_, rfl, b, _, _, _, rfl, rfl, sqL_same dl_sub B.dr, at_of (i := 0) rfl, q _ _ (Same.refl H) rfl⟩
/-- told with one put otherwise -/
theorem BC.std (B : BC K A a b bo at' ns d0 d1 d2 H) {te : TE} (h : ∀ H', Same H H' → Mk A te (sigB a b bo at' k u) H' (E1 K)) : Mk A (tOp rCat (tOp rCat (tA1 K) (tLst (tCons te tNil))) (tB1 K)) (sigB a b bo at' k u) H (TH K) :=
  mk_to (mk_cat (n := 21) (m := 20) B.ok (mk_cat (n := 20) (m := 1) B.ok B.cutA (fun H' s => mk_lst1 (ok_same_A B.ok s) (h H' s)) (by omega)) (fun H' s => (B.same s).cutB) (by omega)) fun v H' p => p.th (by omega)
theorem BC.std2 (B : BC K A a b bo at' ns d0 d1 d2 H) {ta tb : TE} (ha : ∀ H', Same H H' → Mk A ta (sigB a b bo at' k u) H' (O1 K)) (hb : ∀ H', Same H H' → Mk A tb (sigB a b bo at' k u) H' (O1 K)) : Mk A (tOp rCat (tOp rCat (tA1 K) (tLst (tCons (tTup (tCons ta (tCons tb tNil))) tNil))) (tB1 K)) (sigB a b bo at' k u) H (TH K) :=
  B.std fun H' s => mk_tup2 (ok_same_A B.ok s) (ha H' s) fun H2 s2 => hb H2 (s.trans s2)
theorem tw_cut {v : V} {H' : Hp} {l h : Option Int} (hl : ns.length ≤ 20) (p : TW K (cutV (ns.map V.int) l h) v H') : O1 K v H' := by
  obtain ⟨ms, e, lm⟩ := cut_ints ns l h
  rw [e] at p
  exact p.ints (by omega)
end

abbrev sBent : Stmt := topS 53
abbrev NBE : List Str := ["told", "draws", "at", "k", "others", "some"]
theorem scBent : FnScope NBE ["told", "draws"] (defScope sBent) := ⟨rfl, rfl, rfl, by decide +kernel, rfl, by decide +kernel, by decide +kernel⟩
def rLstOf (K : PySem.W.Frag) : List V → Hp → VK → Prop := fun xs H Q => ∃ p ys, xs = [.ref p] ∧ (SqL K H p ys ∨ SqT K H p ys) ∧ ∀ l, H l = none → Q (.ref l) (upd H l (.lst ys))
def spBent (K : PySem.W.Frag) : Sp := fun vs H Q _ => ∃ (A : List Addr) (a b : Addr) (ys : List V) (ts : Tolds) (d0 d1 d2 : Int), vs = [.ref a, .ref b] ∧ OkA A H ∧ dl A H a = some (.lst ys) ∧ ToldV K (dl A H) ys ts ∧ ts.length ≤ 20 ∧ (∀ t ∈ ts, t.2.length ≤ 20) ∧ SqL K (dl A H) b [.int d0, .int d1, .int d2] ∧ 0 ≤ d0 ∧ d0 < 15 ∧ 0 ≤ d1 ∧ 0 ≤ d2 ∧ ∀ H' v, Same H H' → TH K v (dl A H') → Q v H'
theorem eqv_nil (ds : List PyData) : PyData.eqv (.list ds) (.list []) = decide (ds = []) := by
  cases ds with
  | nil => simp [PyData.eqv, PyData.eqvAll]
  | cons d ds => simp [PyData.eqv, PyData.eqvAll]
theorem told_lay : ∀ ts : Tolds, PyData.canLayAll0 (ts.map pairD) = true
  | [] => rfl
  | t :: ts => by
    rw [List.map_cons]
    simp [PyData.canLayAll0, pairD, PyData.canLay0, ints_lay t.2, told_lay ts]
theorem told_depth : ∀ ts : Tolds, PyData.depthAll (ts.map pairD) ≤ 9
  | [] => by simp [PyData.depthAll]
  | t :: ts => by
    have h := told_depth ts
    have h1 := ints_depth t.2
    have h2 : (pairD t).depth ≤ 9 := by
      simp only [pairD, PyData.depth, PyData.depthAll]
      omega
    rw [List.map_cons]
    simp only [PyData.depthAll]
    omega
theorem told_shaped (ts : Tolds) : SeqAt.shaped (.list (ts.map pairD)) = true := by
  unfold SeqAt.shaped
  have h := told_depth ts
  have h1 := told_lay ts
  rw [Bool.and_eq_true]
  refine ⟨by simpa [PyData.canLay0] using h1, decide_eq_true ?_⟩
  simp only [PyData.depth]
  omega
structure Jn (K : PySem.W.Frag) (A : List Addr) (a b bo s : Addr) (at' : Int) (ns : List Int) (d0 d1 d2 : Int) (H0 H : Hp) (n : Nat) : Prop where
  bc : BC K (s :: A) a b bo at' ns d0 d1 d2 H
  lst : ∃ zs, H s = some (.lst zs) ∧ zs.length = n ∧ ∀ z ∈ zs, TH K z (dl (s :: A) H)
  sm : Same H0 H
  new : H0 s = none
section
variable {K : PySem.W.Frag} {A : List Addr} {a b bo s : Addr} {at' k : Int} {ns : List Int} {d0 d1 d2 : Int} {H0 H : Hp} {n : Nat}
theorem BC.put (B : BC K (s :: A) a b bo at' ns d0 d1 d2 H) {o : HO} : BC K (s :: A) a b bo at' ns d0 d1 d2 (upd H s o) := by
  have e : dl (s :: A) (upd H s o) = dl (s :: A) H := dl_upd (by simp)
  refine ⟨by rw [e]; exact B.tv, by rw [e]; exact B.oth, B.nl, by rw [e]; exact B.dr, fun s' hs z => ?_⟩
  by_cases c : s' = s
  · rw [c, upd_same] at z
    cases z
  · rw [upd_ne c] at z
    exact B.ok s' hs z
theorem jn_step {tX : TE} {D : Ends} (J : Jn K A a b bo s at' ns d0 d1 d2 H0 H n) (hn : n < 900) (mk : ∀ {H}, BC K (s :: A) a b bo at' ns d0 d1 d2 H → Mk (s :: A) tX (sigB a b bo at' k (some (.ref s))) H (TH K))
    (nx : ∀ H', Jn K A a b bo s at' ns d0 d1 d2 H0 H' (n + 1) → D.nx (sigB a b bo at' k (some (.ref s))) H') : tDrop (tBM K "list" rAppend (tVar 5) (tCons tX tNil)) D (sigB a b bo at' k (some (.ref s))) H := by
  obtain ⟨zs, h1, h2, h3⟩ := J.lst
  refine ⟨_, rfl, .inl ⟨rfl, _, SqL.of h1⟩, mk J.bc _ fun v H' s1 pv => ⟨s, zs, v, rfl, rfl, s1 _ _ h1, small1000 (by omega), nx _ ⟨(J.bc.same s1).put, ⟨_, upd_same, by rw [List.length_append, h2]; rfl, fun z hz => ?_⟩, fun b' o e => ?_, J.new⟩⟩⟩
  · rw [dl_upd (by simp)]
    rcases List.mem_append.mp hz with w | w
    · exact (h3 z w).same (dl_same s1)
    · rw [List.mem_singleton.mp w]
      exact pv
  · rw [upd_ne (ne_of_none e J.new)]
    exact s1 _ _ (J.sm _ _ e)
end
section
variable {K : PySem.W.Frag} {A : List Addr} {a b bo : Addr} {at' k : Int} {ns : List Int} {d0 d1 d2 : Int} {H : Hp} {u : Option V}
theorem int_o1 {n : Int} {H' : Hp} : O1 K (.int n) H' := ⟨.int n, .int n, fun os e => by cases e⟩
theorem BC.kX (B : BC K A a b bo at' ns d0 d1 d2 H) : Mk A (tVar 3) (sigB a b bo at' k u) H fun x _ => x = .int k := mk_v rfl rfl
theorem BC.c1 (B : BC K A a b bo at' ns d0 d1 d2 H) {tl th : TO} {l h : Option Int} (hl : ∀ H' Q, Q l H' → tl (sigB a b bo at' k u) H' Q) (hh : ∀ H' Q, Q h H' → th (sigB a b bo at' k u) H' Q) : Mk A (tSl (rSlA K) (tVar 4) tl th) (sigB a b bo at' k u) H (O1 K) := mk_to (mk_cutT (l := l) (h := h) B.ok B.oM hl hh) fun v H' p => tw_cut B.nl p
theorem BC.catI (B : BC K A a b bo at' ns d0 d1 d2 H) {te : TE} {n : Int} (h : ∀ H', Same H H' → Mk A te (sigB a b bo at' k u) H' fun x _ => x = .int n) : Mk A (tOp (rCatA K) (tVar 4) (tTup (tCons te tNil))) (sigB a b bo at' k u) H (TW K ((ns ++ [n]).map V.int)) := by
  have := mk_catT (K := K) B.ok B.oM (fun H' s => mk_tw1 (ok_same_A B.ok s) (h H' s)) (by rw [List.length_map]; have := B.nl; simp; omega)
  rw [List.map_append]
  exact this
theorem BC.cat1 (B : BC K A a b bo at' ns d0 d1 d2 H) {te : TE} {n : Int} (h : ∀ H', Same H H' → Mk A te (sigB a b bo at' k u) H' fun x _ => x = .int n) : Mk A (tOp (rCatA K) (tVar 4) (tTup (tCons te tNil))) (sigB a b bo at' k u) H (O1 K) := mk_to (B.catI h) fun v H' p => p.ints (by
  have := B.nl
  rw [List.length_append, List.length_singleton]
  omega)
theorem mk_sortT {te : TE} {σ : L2.St} {ms : List Int} (ok : OkA A H) (hl : ms.length ≤ 50) (h : Mk A te σ H (TW K (ms.map V.int))) : Mk A (tCB (rTupOf K) (tCons (tCB (rSortedQ K) (tCons te tNil)) tNil)) σ H (O1 K) := by
  intro Q q
  refine h _ fun x H1 s1 px => ?_
  obtain ⟨p, rfl, hp⟩ := px
  refine ⟨p, ms, rfl, .inr (sqT_same dl_sub hp), by omega, fun ns' r pm _ hr => ⟨r, _, rfl, .inl ⟨SqL.of upd_same, fun l hl' => ?_⟩⟩⟩
  have s2 := same_new (o := .lst (ns'.map V.int)) hr
  have s3 := same_new (o := .tup (ns'.map V.int)) hl'
  refine q (.ref l) _ ((s1.trans s2).trans s3) ?_
  exact TW.ints ⟨l, rfl, SqT.of (dl_new (ok_same_A ok (s1.trans s2)) hl')⟩ (by rw [pm.length_eq]; exact hl)
theorem BC.revM (B : BC K A a b bo at' ns d0 d1 d2 H) : Mk A (tRevT K (tVar 4)) (sigB a b bo at' k u) H (O1 K) := mk_to (mk_revT B.ok B.oM) fun v H' p => by
  rw [← List.map_reverse] at p
  exact p.ints (by rw [List.length_reverse]; have := B.nl; omega)
theorem BC.catC (B : BC K A a b bo at' ns d0 d1 d2 H) : Mk A (tOp (rCatA K) (tVar 4) (tSl (rSlA K) (tVar 4) tNoPart (tPart (tC (.int 1))))) (sigB a b bo at' k u) H (O1 K) := by
  obtain ⟨ms, e, lm⟩ := cut_ints ns none (some 1)
  have hc : ∀ H', Same H H' → Mk A (tSl (rSlA K) (tVar 4) tNoPart (tPart (tC (.int 1)))) (sigB a b bo at' k u) H' (TW K (ms.map V.int)) := fun H' s => by
    have := mk_cutT (l := none) (h := some 1) (tl := tNoPart) (th := tPart (tC (.int 1))) (B.same s).ok ((B.same s).oM (k := k) (u := u)) (fun _ _ q => q) fun _ _ q => ⟨_, rfl, q⟩
    rw [e] at this
    exact this
  have nl := B.nl
  refine mk_to (mk_catT B.ok B.oM hc (by rw [List.length_map, List.length_map]; omega)) fun v H' p => ?_
  rw [← List.map_append] at p
  exact p.ints (by rw [List.length_append]; omega)
theorem BC.catS (B : BC K A a b bo at' ns d0 d1 d2 H) {z : Str} : Mk A (tOp (rCatA K) (tVar 4) (tTup (tCons (tC (.str z)) tNil))) (sigB a b bo at' k u) H (O1 K) := by
  have nl := B.nl
  refine mk_to (mk_catT (ys := [.str z]) B.ok B.oM (fun H' s => mk_tw1 (ok_same_A B.ok s) (mk_c rfl)) (by rw [List.length_map]; simp; omega)) fun v H' p => ?_
  exact p.o1 (ds := ns.map .int ++ [.str z]) (dps_app (dps_ints ns) (.cons (.str z) .nil)) (by rw [List.length_append, List.length_map]; simp; omega)
theorem BC.oO (B : BC K A a b bo at' ns d0 d1 d2 H) : Mk A (tVar 4) (sigB a b bo at' k u) H (O1 K) := mk_to B.oM fun v H' p => p.ints (by have := B.nl; omega)
theorem tup1_o1 {te : TE} {σ : L2.St} {v : V} {d : PyData} (ok : OkA A H) (ha : Mk A te σ H fun x _ => x = v) (hd : ∀ H', Dp K H' v d) : Mk A (tTup (tCons te tNil)) σ H (O1 K) := mk_to (mk_tw1 ok ha) fun v' H' p => p.o1 (ds := [d]) (.cons (hd H') .nil) (by show 1 ≤ 50; decide)
theorem E1.mono {K : PySem.W.Frag} : ∀ v H H', E1 K v H → Same H H' → E1 K v H' := fun _ _ _ h e => h.same e
theorem TH.mono {K : PySem.W.Frag} : ∀ v H H', TH K v H → Same H H' → TH K v H' := fun _ _ _ h e => h.same e
theorem non_e1 {H' : Hp} : E1 K .non H' := ⟨.none, .non, fun es e => by cases e⟩
theorem non_o1 {H' : Hp} : O1 K .non H' := ⟨.none, .non, fun es e => by cases e⟩
theorem bl_o1 {c : Bool} {H' : Hp} : O1 K (.bl c) H' := ⟨.bool c, .bl c, fun es e => by cases e⟩
theorem str_o1 {c : Str} {H' : Hp} : O1 K (.str c) H' := ⟨.str c, .str c, fun es e => by cases e⟩
/-- [[k, list(others)] for k, others in told] -/
theorem BC.lcM (B : BC K A a b bo at' ns d0 d1 d2 H) : Mk A (tLc (iList K (tVar 0)) (gE K 3 4) tYes (tLst (tCons (tVar 3) (tCons (tCB (rLstOf K) (tCons (tVar 4) tNil)) tNil))) [3, 4]) (sigB a b bo at' k u) H (LV K 20) := by
  obtain ⟨ys, ts, h1, h2, h3, h4, _⟩ := B.tv
  have yl := h2.len
  intro Q q
  refine ⟨_, rfl, a, rfl, ⟨_, SqL.of (dl_sub _ _ h1)⟩, fun D hD => ?_⟩
  have nA : D ∉ A := ok_not B.ok hD
  have sk : ∀ {H4 : Hp}, (∀ b o, b ≠ D → H b = some o → H4 b = some o) → Same H H4 := fun kp b o e => kp b o (ne_of_none e hD) e
  have aD : a ≠ D := ne_of_none (dl_sub _ _ h1) hD
  -- the new things, apart from D
  refine lc_it walk_list (fun i H4 => (∀ b o, b ≠ D → H b = some o → H4 b = some o) ∧ ∃ zs, H4 D = some (.lst zs) ∧ ∃ ds, DpAll K (dl (D :: A) H4) zs ds ∧ ds.length = i ∧ ∀ d ∈ ds, fitE d) ⟨fun b o hb e => by rw [upd_ne hb]; exact e, [], upd_same, [], .nil, rfl, fun d hd => by cases hd⟩
    (fun i H4 _ ⟨kp, _⟩ => SqL.of (kp _ _ aD (dl_sub _ _ h1))) ?_ ?_
  · rintro i y H4 H4' hi ⟨kp, zs, hD4, ds, hds, hdl, hfit⟩ ⟨rfl, hy⟩
    have s4 := sk kp
    obtain ⟨t, ht, pa, pb, rfl, g1, g2⟩ := h2.get hy
    have g1' := sqT_same s4 (sqT_same dl_sub g1)
    have g2' := sqT_same s4 (sqT_same dl_sub g2)
    refine ⟨pa, _, rfl, g1', rfl, _, _, rfl, _, _, rfl, rfl, rfl, yes_go (iteT ⟨_, rfl, _, rfl, pb, _, rfl, .inr g2', fun l hl => ⟨(by show 2 ≤ sizeLine; decide), fun r hr => ?_⟩⟩)⟩
    have t1 := same_new (o := .lst (t.2.map V.int)) hl
    have t2 := same_new (o := .lst [V.int (t.1 : Int), V.ref l]) hr
    have t12 := t1.trans t2
    have lD : D ≠ l := ne_of_none hD4 hl
    have rD : D ≠ r := ne_of_none (t1 _ _ hD4) hr
    have lr : l ≠ r := ne_of_none upd_same hr
    have o4 := ok_same_A B.ok s4
    have lsA : l ∉ D :: A := fun z => (List.mem_cons.mp z).elim lD.symm (ok_not o4 hl)
    have rsA : r ∉ D :: A := fun z => (List.mem_cons.mp z).elim rD.symm (ok_not (ok_same_A o4 t1) hr)
    refine ⟨zs, t12 _ _ hD4, ?_, fun b' o hb e => ?_, _, upd_same, ds ++ [.list [.int (t.1 : Int), .list (t.2.map .int)]], ?_, ?_, fun d hd => ?_⟩
    · have := dps_len hds
      have hi2 : i < ts.length := by omega
      exact small1000 (by omega)
    · rw [upd_ne hb]
      exact t12 _ _ (kp b' o hb e)
    · rw [dl_upd (by simp)]
      refine dps_app (dps_same (dl_same t12) hds) (.cons ?_ .nil)
      exact .lst (SqL.of (dl_out rsA upd_same)) (.cons (.int _) (.cons (.lst (SqL.of (dl_out lsA (by rw [upd_ne lr]; exact upd_same))) (dps_ints _)) .nil))
    · rw [List.length_append, hdl]
      rfl
    · rcases List.mem_append.mp hd with w | w
      · exact hfit d w
      · rw [List.mem_singleton.mp w]
        intro es e o ho os eo
        cases e
        rcases List.mem_cons.mp ho with w | w
        · rw [w] at eo
          cases eo
        · rw [List.mem_singleton.mp w] at eo
          cases eo
          have := h4 t (List.mem_of_getElem? ht)
          rw [List.length_map]
          omega
  · rintro H4 ⟨kp, zs, hD4, ds, hds, hdl, hfit⟩
    exact q (.ref D) H4 (sk kp) ⟨D, zs, ds, rfl, dl_out nA hD4, dps_same dl_weak hds, by omega, hfit⟩
end
theorem some_step {A : List Addr} {a b bo : Addr} {at' k : Int} {H : Hp} {t : TA} {D : Ends} {n : Nat} {P : V → Hp → Prop} (M : MkA A t (sigB a b bo at' k none) H P n) (hn : n ≤ 900)
    (nx : ∀ zs H2 s, Same H H2 → zs.length = n → (∀ z ∈ zs, P z (dl A H2)) → H2 s = none → D.nx (sigB a b bo at' k (some (.ref s))) (upd H2 s (.lst zs))) : tAsg (tLst t) (gName 5) D (sigB a b bo at' k none) H :=
  M _ fun zs H2 s2 hl hz => ⟨Nat.le_of_lt (small1000 (by omega)), fun s hs => nx zs H2 s s2 hl hz hs⟩
section
variable {P : Program} {w : World} {K : PySem.W.Frag} {mg : Str → Option Value} {base : Heap}
theorem ok_bent {f : Addr} {fd : FuncData} (F : Fun K "_law_bent" "_law_bent" sBent f fd) (T : Bi mg) : FnOk P w K mg base CX0 1 f fd ["told", "draws"] (spBent K) := by
  refine F.ok scBent (fun vs H Q E h => ?_) (fun cdv A outer s H vs Q E hr h => ?_)
  · obtain ⟨A, a, b, ys, ts, d0, d1, d2, rfl, _⟩ := h
    rfl
  · obtain ⟨Av, a, b, ys, ts, d0, d1, d2, rfl, okH, hda, hdts, l1, l2, hdb, p0, p0', p1, p2, q⟩ := h
    have ha := dl_sub _ _ hda
    have hts : ToldV K H ys ts := told_of (fun a xs h => sqT_same dl_sub h) hdts
    have hb := sqL_same dl_sub hdb
    have hu64 := hr.units
    refine ⟨_, (pss_cons (ps_if (pt_cmpR (op_eqD hu64) (pv 0) (pe_lst pa_nil) (nomark _)) (pss_one (ps_ret (pe_ix ix_list (pe_lst (pa_cons (pe_lst (pa_cons (pe_tup (pa_cons pe_int (pa_cons (pe_tup pa_nil) pa_nil))) pa_nil)) (pa_cons (pe_lst (pa_cons (pe_tup (pa_cons pe_int (pa_cons (pe_tup (pa_cons pe_int pa_nil)) pa_nil))) pa_nil)) (pa_cons (pe_tup pa_nil) (pa_cons (pe_lst (pa_cons pe_non pa_nil)) pa_nil))))) (pe_op op_mod (pe_ix ix_list (pv 1) pe_int (fun _ _ => rfl)) pe_int) (fun _ _ => rfl)))) pss_nil)
      (pss_cons (ps_set (i := 2) scBent.nd rfl (.inl rfl) (pe_op op_mod (pe_ix ix_list (pv 1) pe_int (fun _ _ => rfl)) (pe_callB call_len_seq (by rfl) T.len (by decide +kernel) (pa_cons (pv 0) pa_nil))))
      (pss_cons (ps_asg (pe_ix ix_list (pv 0) (pv 2) (fun _ _ => rfl)) (pg_tup rfl (pgs_cons (pg_name (i := 3) scBent.nd rfl (.inl rfl)) (pgs_cons (pg_name (i := 4) scBent.nd rfl (.inl rfl)) pgs_nil))))
      (pss_cons (ps_set (i := 5) scBent.nd rfl (.inl rfl) (pe_lst (pa_cons (pe_op op_cat (pe_slice sl_list (pv 0) po_none (po_some (pv 2))) (pe_slice sl_list (pv 0) (po_some (pe_op op_add (pv 2) pe_int)) po_none)) (pa_cons (pe_op op_cat (pv 0) (pe_lst (pa_cons (pe_ix ix_list (pv 0) (pv 2) (fun _ _ => rfl)) pa_nil))) (pa_cons (pe_revL (pv 0)) (pa_cons (pe_op op_cat (pe_slice sl_list (pv 0) (po_some (pv 2)) po_none) (pe_slice sl_list (pv 0) po_none (po_some (pv 2)))) pa_nil))))))
      (pss_cons (ps_expr (pe_bm PySem.F.plainAttrs_list PySem.F.slot_list_append PySem.F.type_list_append mt_append (pv 5) (pa_cons (pe_op op_cat (pe_op op_cat (pe_slice sl_list (pv 0) po_none (po_some (pv 2))) (pe_lst (pa_cons (pe_tup (pa_cons (pv 3) (pa_cons (pe_slice sl_tupA (pv 4) (po_some pe_int) po_none) pa_nil))) pa_nil))) (pe_slice sl_list (pv 0) (po_some (pe_op op_add (pv 2) pe_int)) po_none)) pa_nil)))
      (pss_cons (ps_expr (pe_bm PySem.F.plainAttrs_list PySem.F.slot_list_append PySem.F.type_list_append mt_append (pv 5) (pa_cons (pe_op op_cat (pe_op op_cat (pe_slice sl_list (pv 0) po_none (po_some (pv 2))) (pe_lst (pa_cons (pe_tup (pa_cons (pv 3) (pa_cons (pe_op op_catA (pv 4) (pe_tup (pa_cons (pv 3) pa_nil))) pa_nil))) pa_nil))) (pe_slice sl_list (pv 0) (po_some (pe_op op_add (pv 2) pe_int)) po_none)) pa_nil)))
      (pss_cons (ps_expr (pe_bm PySem.F.plainAttrs_list PySem.F.slot_list_append PySem.F.type_list_append mt_append (pv 5) (pa_cons (pe_op op_cat (pe_op op_cat (pe_slice sl_list (pv 0) po_none (po_some (pv 2))) (pe_lst (pa_cons (pe_tup (pa_cons (pv 3) (pa_cons (pe_callTy call_tuple_of (by rfl) T.tuple (by decide +kernel) (pa_cons (pe_callB cr_sortedQ (by rfl) T.sorted (by decide +kernel) (pa_cons (pe_op op_catA (pv 4) (pe_tup (pa_cons (pe_ix ix_list (pv 1) pe_int (fun _ _ => rfl)) pa_nil))) pa_nil)) pa_nil)) pa_nil))) pa_nil))) (pe_slice sl_list (pv 0) (po_some (pe_op op_add (pv 2) pe_int)) po_none)) pa_nil)))
      (pss_cons (ps_expr (pe_bm PySem.F.plainAttrs_list PySem.F.slot_list_append PySem.F.type_list_append mt_append (pv 5) (pa_cons (pe_op op_cat (pe_op op_cat (pe_slice sl_list (pv 0) po_none (po_some (pv 2))) (pe_lst (pa_cons (pe_tup (pa_cons (pe_ix ix_list (pv 1) pe_int (fun _ _ => rfl)) (pa_cons (pv 4) pa_nil))) pa_nil))) (pe_slice sl_list (pv 0) (po_some (pe_op op_add (pv 2) pe_int)) po_none)) pa_nil)))
      (pss_cons (ps_expr (pe_bm PySem.F.plainAttrs_list PySem.F.slot_list_append PySem.F.type_list_append mt_append (pv 5) (pa_cons (pe_op op_cat (pe_op op_cat (pe_slice sl_list (pv 0) po_none (po_some (pv 2))) (pe_lst (pa_cons (pe_tup (pa_cons (pv 3) (pa_cons (pe_revT (pv 4)) pa_nil))) pa_nil))) (pe_slice sl_list (pv 0) (po_some (pe_op op_add (pv 2) pe_int)) po_none)) pa_nil)))
      (pss_cons (ps_expr (pe_bm PySem.F.plainAttrs_list PySem.F.slot_list_append PySem.F.type_list_append mt_append (pv 5) (pa_cons (pe_op op_cat (pe_op op_cat (pe_slice sl_list (pv 0) po_none (po_some (pv 2))) (pe_lst (pa_cons (pe_tup (pa_cons (pv 3) (pa_cons (pe_op op_catA (pv 4) (pe_slice sl_tupA (pv 4) po_none (po_some pe_int))) pa_nil))) pa_nil))) (pe_slice sl_list (pv 0) (po_some (pe_op op_add (pv 2) pe_int)) po_none)) pa_nil)))
      (pss_cons (ps_expr (pe_bm PySem.F.plainAttrs_list PySem.F.slot_list_append PySem.F.type_list_append mt_append (pv 5) (pa_cons (pe_op op_cat (pe_slice sl_list (pv 0) po_none (po_some (pv 2))) (pe_lst (pa_cons (pe_ix ix_list (pe_lst (pa_cons pe_non (pa_cons (pe_tup (pa_cons (pv 3) pa_nil)) (pa_cons (pe_tup (pa_cons (pv 3) (pa_cons pe_non pa_nil))) (pa_cons (pe_tup (pa_cons pe_bl (pa_cons (pv 4) pa_nil))) (pa_cons (pe_tup (pa_cons (pv 3) (pa_cons (pe_tup (pa_cons pe_str pa_nil)) pa_nil))) (pa_cons (pe_tup (pa_cons pe_str (pa_cons (pv 4) pa_nil))) pa_nil))))))) (pe_op op_mod (pe_ix ix_list (pv 1) pe_int (fun _ _ => rfl)) pe_int) (fun _ _ => rfl)) pa_nil))) pa_nil)))
      (pss_cons (ps_expr (pe_bm PySem.F.plainAttrs_list PySem.F.slot_list_append PySem.F.type_list_append mt_append (pv 5) (pa_cons (pe_lc (own := [("k", 3), ("others", 4)]) (g := gE K 3 4) (tt := tYes) (te := tLst (tCons (tVar 3) (tCons (tCB (rLstOf K) (tCons (tVar 4) tNil)) tNil))) rfl scBent.nd (pi_list (pv 0)) (blkOk_by (N := NBE) (sc := defScope sBent) (by decide +kernel)) (fun _ _ _ _ _ => (pg_tup rfl (pgs_cons (pg_name (i := 3) scBent.nd rfl (.inl rfl) (.inr rfl)) (pgs_cons (pg_name (i := 4) scBent.nd rfl (.inl rfl) (.inr rfl)) pgs_nil)))) (fun _ _ _ _ _ => pts_nil) (fun _ _ _ _ _ => (pe_lst (pa_cons (pv 3) (pa_cons (pe_callTy call_list_of (by rfl) T.list (by decide +kernel) (pa_cons (pv 4) pa_nil)) pa_nil))))) pa_nil)))
      (pss_cons (ps_expr (pe_bm PySem.F.plainAttrs_list PySem.F.slot_list_append PySem.F.type_list_append mt_append (pv 5) (pa_cons (pe_op op_cat (pe_op op_cat (pe_slice sl_list (pv 0) po_none (po_some (pv 2))) (pe_lst (pa_cons (pe_tup (pa_cons (pv 3) (pa_cons (pe_tup (pa_cons pe_bl pa_nil)) pa_nil))) pa_nil))) (pe_slice sl_list (pv 0) (po_some (pe_op op_add (pv 2) pe_int)) po_none)) pa_nil)))
      (pss_cons (ps_expr (pe_bm PySem.F.plainAttrs_list PySem.F.slot_list_append PySem.F.type_list_append mt_append (pv 5) (pa_cons (pe_op op_cat (pe_op op_cat (pe_slice sl_list (pv 0) po_none (po_some (pv 2))) (pe_lst (pa_cons (pe_tup (pa_cons (pv 3) (pa_cons (pe_op op_catA (pv 4) (pe_tup (pa_cons pe_str pa_nil))) pa_nil))) pa_nil))) (pe_slice sl_list (pv 0) (po_some (pe_op op_add (pv 2) pe_int)) po_none)) pa_nil)))
      (pss_one (ps_ret (pe_ix ix_list (pe_op op_cat (pv 5) (pe_lst (pa_cons (pe_callTy call_tuple_of (by rfl) T.tuple (by decide +kernel) (pa_cons (pv 0) pa_nil)) pa_nil))) (pe_ix ix_list (pv 1) pe_int (fun _ _ => rfl)) (fun _ _ => rfl)))))))))))))))))), ?_⟩
    refine ⟨_, rfl, Nat.zero_le _, fun pe hpe => ?_⟩
    have s1 := same_new (o := .lst []) hpe
    refine ⟨.list (ts.map pairD), .list [], .lst (SqL.of (s1 _ _ ha)) (told_dps (told_of (fun a xs h => sqT_same s1 h) hts)), .lst (SqL.of upd_same) .nil, told_shaped ts, rfl, _, rfl, ?_⟩
    rw [eqv_nil]
    have ha1 := s1 _ _ ha
    have hb1 := sqL_same s1 hb
    have hts1 : ToldV K _ ys ts := told_of (fun a xs h => sqT_same s1 h) hts
    have d1s := dl_same (A := Av) s1
    have hda1 := d1s _ _ hda
    have hdts1 : ToldV K _ ys ts := told_of (fun a xs h => sqT_same d1s h) hdts
    have hdb1 := sqL_same d1s hdb
    have ok1 := ok_same_A okH s1
    clear d1s
    generalize upd H pe (.lst []) = H1 at s1 ha1 hb1 hts1 hda1 hdts1 hdb1 ok1
    have yl := hts1.len
    cases ts with
    | nil =>
      rw [decide_eq_true (by rfl)]
      refine iteT ?_
      have dM : ∀ {σ : L2.St} {H' : Hp}, σ[1]? = some (some (.ref b)) → Same H1 H' → Mk Av (tOp (rI (fun _ j => 0 < j) fun i j => .int (i % j)) (tD K 0) (tC (.int 4))) σ H' fun x _ => x = .int (d0 % 4) := fun hσ s Q q => ⟨_, hσ, b, _, _, _, rfl, rfl, sqL_same s hb1, at_of (i := 0) rfl, _, _, rfl, rfl, (by show (0 : Int) < 4; decide), q _ _ (Same.refl _) rfl⟩
      refine mk_lstIx (A := Av) (P := TH K) (n := 4) (i := d0 % 4) ok1 TH.mono (mka_cons TH.mono (mk_to (mk_lst1 ok1 (mk_tup2 ok1 (mk_c int_o1) fun H' s => mk_to (mk_tup0 (ok_same_A ok1 s) rfl) fun v H' p => ⟨_, p, fun os e => by cases e; exact Nat.zero_le _⟩)) fun v H' p => p.th (by omega)) fun H2 u2 => mka_cons TH.mono (mk_to (mk_lst1 (ok_same_A ok1 u2) (mk_tup2 (ok_same_A ok1 u2) (mk_c int_o1) fun H' s => tup1_o1 (ok_same_A (ok_same_A ok1 u2) s) (mk_c rfl) fun _ => .int 1)) fun v H' p => p.th (by omega)) fun H3 u3 => mka_cons TH.mono (mk_to (mk_tup0 (ok_same_A (ok_same_A ok1 u2) u3) rfl) fun v H' p => ⟨_, p, fun os e => by
        cases e
        exact ⟨Nat.zero_le _, fun z hz => by cases hz⟩⟩) fun H4 u4 => mka_cons TH.mono (mk_to (mk_lst1 (ok_same_A (ok_same_A (ok_same_A ok1 u2) u3) u4) (mk_c non_e1)) fun v H' p => p.th (by omega)) fun H' s => mka_nil) (by omega) (fun H' s => dM rfl s) (Int.emod_nonneg _ (by decide)) (Int.emod_lt_of_pos _ (by decide)) _ fun v H' s p => q H' v (s1.trans s) p
    | cons t0 ts' =>
      generalize hts0 : t0 :: ts' = ts at *
      have tn : ts ≠ [] := by rw [← hts0]; simp
      have e0 : decide (ts.map pairD = []) = false := decide_eq_false fun z => tn (List.map_eq_nil_iff.mp z)
      rw [e0]
      have lpos : 0 < ts.length := List.length_pos_iff.mpr tn
      have pos : (0 : Int) < ((ys.length : Nat) : Int) := by omega
      refine iteF ⟨_, rfl, b, _, _, _, rfl, rfl, hb1, at_of (i := 1) rfl, _, rfl, a, _, rfl, .inl (SqL.of ha1), _, _, rfl, rfl, pos, ?_⟩
      have i0 : 0 ≤ d1 % ((ys.length : Nat) : Int) := Int.emod_nonneg _ (by omega)
      have i1 : d1 % ((ys.length : Nat) : Int) < ((ys.length : Nat) : Int) := Int.emod_lt_of_pos _ pos
      obtain ⟨m, em⟩ := Int.eq_ofNat_of_zero_le i0
      have hm : m < ys.length := by omega
      have hy : ys[m]? = some ys[m] := List.getElem?_eq_getElem hm
      obtain ⟨t, ht, pa, bo, ey, g1', g2'⟩ := hdts1.get hy
      have g1 := sqT_same dl_sub g1'
      have g2 := sqT_same dl_sub g2'
      rw [ey] at hy
      have hat : atI ys (d1 % ((ys.length : Nat) : Int)) = some (.ref pa) := by
        rw [em]
        exact at_of hy
      refine ⟨_, rfl, _, rfl, a, _, _, _, rfl, rfl, SqL.of ha1, hat, pa, _, rfl, g1, rfl, _, _, rfl, _, _, rfl, rfl, ?_⟩
      have lt := l2 t (List.mem_of_getElem? ht)
      have B : BC K Av a b bo (d1 % ((ys.length : Nat) : Int)) t.2 d0 d1 d2 H1 := ⟨⟨ys, ts, hda1, hdts1, l1, l2, _, hat, pairD t, .tup g1' (.cons (.int _) (.cons (.tup g2' (dps_ints _)) .nil)), pair_fitE lt⟩, g2', lt, hdb1, ok1⟩
      have ixM : ∀ {u : Option V} {H' : Hp}, Same H1 H' → Mk Av (tOp (rIxL K) (tVar 0) (tVar 2)) (sigB a b bo (d1 % ((ys.length : Nat) : Int)) (t.1 : Int) u) H' (E1 K) := fun s Q q => by
        obtain ⟨ys', ts', h1, _, _, _, y, h5, h6⟩ := (B.same s).tv
        exact ⟨_, rfl, _, rfl, a, ys', _, y, rfl, rfl, SqL.of (dl_sub _ _ h1), h5, q _ _ (Same.refl _) h6⟩
      have M4 : MkA Av (tCons (tOp rCat (tA1 K) (tB1 K)) (tCons (tOp rCat (tVar 0) (tLst (tCons (tOp (rIxL K) (tVar 0) (tVar 2)) tNil))) (tCons (tRevL K (tVar 0)) (tCons (tOp rCat (tSl (rSlL K) (tVar 0) (tPart (tVar 2)) tNoPart) (tA1 K)) tNil)))) (sigB a b bo (d1 % ((ys.length : Nat) : Int)) (t.1 : Int) none) H1 (TH K) 4 :=
        mka_cons TH.mono (mk_to (mk_cat B.ok B.cutA (fun H' s => (B.same s).cutB) (by omega)) fun v H' p => p.th (by omega)) fun H2 s2 =>
        mka_cons TH.mono (mk_to (mk_cat (n := 20) (m := 1) (B.same s2).ok (B.same s2).toldM (fun H' s => mk_lst1 ((B.same s2).same s).ok (ixM (s2.trans s))) (by omega)) fun v H' p => p.th (by omega)) fun H3 s3 =>
        mka_cons TH.mono (mk_to (mk_revL ((B.same s2).same s3).ok ((B.same s2).same s3).toldM) fun v H' p => p.th (by omega)) fun H4 s4 =>
        mka_cons TH.mono (mk_to (mk_cat (n := 20) (m := 20) (((B.same s2).same s3).same s4).ok (mk_cut (l := some (d1 % ((ys.length : Nat) : Int))) (h := none) (((B.same s2).same s3).same s4).ok (((B.same s2).same s3).same s4).toldM (fun _ _ q => ⟨_, rfl, _, rfl, q⟩) fun _ _ q => q) (fun H' s => ((((B.same s2).same s3).same s4).same s).cutA) (by omega)) fun v H' p => p.th (by omega)) fun H5 s5 => mka_nil
      refine some_step M4 (by omega) fun zs H2 sp s2 hl hz hsp => ?_
      have spn : H1 sp = none := by
        cases e : H1 sp with
        | none => rfl
        | some o => rw [s2 _ _ e] at hsp; cases hsp
      have s3 := s2.trans (same_new (o := .lst zs) hsp)
      have dS : Same (dl Av H1) (dl (sp :: Av) (upd H2 sp (.lst zs))) := dl_born s3 spn
      have dS2 : Same (dl Av H2) (dl (sp :: Av) (upd H2 sp (.lst zs))) := dl_born (same_new hsp) hsp
      have J : Jn K Av a b bo sp (d1 % ((ys.length : Nat) : Int)) t.2 d0 d1 d2 H1 (upd H2 sp (.lst zs)) 4 := by
        refine ⟨⟨?_, sqT_same dS g2', lt, sqL_same dS hdb1, fun s' hs z => ?_⟩, ⟨zs, upd_same, hl, fun z hz' => (hz z hz').same dS2⟩, s3, spn⟩
        · exact ⟨ys, ts, dS _ _ hda1, told_of (fun a xs h => sqT_same dS h) hdts1, l1, l2, _, hat, pairD t, dp_same dS (.tup g1' (.cons (.int _) (.cons (.tup g2' (dps_ints _)) .nil))), pair_fitE lt⟩
        · rcases List.mem_cons.mp hs with e | e
          · rw [e, upd_same] at z
            cases z
          · exact (ok_same_A ok1 s3) s' e z
      generalize upd H2 sp (.lst zs) = H3 at J
      refine jn_step J (by omega) (fun B => B.std2 (fun H' s => (B.same s).kM) fun H' s => (B.same s).c1 (l := some 1) (h := none) (fun _ _ q => ⟨_, rfl, q⟩) fun _ _ q => q) fun H4 J => ?_
      refine jn_step J (by omega) (fun B => B.std2 (fun H' s => (B.same s).kM) fun H' s => (B.same s).cat1 fun H'' s' => ((B.same s).same s').kX) fun H5 J => ?_
      refine jn_step J (by omega) (fun B => B.std2 (fun H' s => (B.same s).kM) fun H' s => mk_sortT (B.same s).ok (by rw [List.length_append, List.length_singleton]; omega) ((B.same s).catI fun H'' s' => ((B.same s).same s').d2M)) fun H6 J => ?_
      refine jn_step J (by omega) (fun B => B.std2 (fun H' s => mk_to (B.same s).d2M fun v H' p => by subst p; exact int_o1) fun H' s => (B.same s).oO) fun H7 J => ?_
      refine jn_step J (by omega) (fun B => B.std2 (fun H' s => (B.same s).kM) fun H' s => (B.same s).revM) fun H8 J => ?_
      refine jn_step J (by omega) (fun B => B.std2 (fun H' s => (B.same s).kM) fun H' s => (B.same s).catC) fun H9 J => ?_
      refine jn_step J (by omega) (fun B => mk_to (mk_cat (n := 20) (m := 1) B.ok B.cutA (fun H' s => mk_lst1 (B.same s).ok (mk_lstIx (n := 6) (i := d2 % 6) (B.same s).ok E1.mono
        (mka_cons E1.mono (mk_c non_e1) fun _ t1 => mka_cons E1.mono (mk_tup1 ((B.same s).same t1).ok ((B.same s).same t1).kM) fun _ t2 => mka_cons E1.mono (mk_tup2 (((B.same s).same t1).same t2).ok (((B.same s).same t1).same t2).kM fun _ _ => mk_c non_o1) fun _ t3 =>
          mka_cons E1.mono (mk_tup2 ((((B.same s).same t1).same t2).same t3).ok (mk_c bl_o1) fun _ t4 => (((((B.same s).same t1).same t2).same t3).same t4).oO) fun _ t5 => mka_cons E1.mono (mk_tup2 (((((B.same s).same t1).same t2).same t3).same t5).ok (((((B.same s).same t1).same t2).same t3).same t5).kM fun _ t6 => tup1_o1 ((((((B.same s).same t1).same t2).same t3).same t5).same t6).ok (mk_c rfl) fun _ => .str _) fun _ t7 =>
          mka_cons E1.mono (mk_tup2 ((((((B.same s).same t1).same t2).same t3).same t5).same t7).ok (mk_c str_o1) fun _ t8 => (((((((B.same s).same t1).same t2).same t3).same t5).same t7).same t8).oO) fun _ _ => mka_nil)
        (by omega) (fun H'' s' Q q => ((B.same s).same s').d2M _ fun v H' s'' p => by subst p; exact ⟨_, _, rfl, rfl, (by show (0 : Int) < 6; decide), q _ _ s'' rfl⟩) (Int.emod_nonneg _ (by decide)) (Int.emod_lt_of_pos _ (by decide)))) (by omega)) fun v H' p => p.th (by omega)) fun Ha J => ?_
      refine jn_step J (by omega) (fun B => mk_to B.lcM fun v H' p => p.th (by omega)) fun Hb J => ?_
      refine jn_step J (by omega) (fun B => B.std2 (fun H' s => (B.same s).kM) fun H' s => tup1_o1 (B.same s).ok (mk_c rfl) fun _ => .bl true) fun Hc J => ?_
      refine jn_step J (by omega) (fun B => B.std2 (fun H' s => (B.same s).kM) fun H' s => (B.same s).catS) fun Hd J => ?_
      -- the one drawn
      obtain ⟨zz, z1, z2, z3⟩ := J.lst
      have Bd := J.bc
      obtain ⟨ys', ts'', k1, k2, k3, k4, _⟩ := Bd.tv
      have k1' := dl_sub _ _ k1
      have okd : OkA Av Hd := fun s' hs => Bd.ok s' (List.mem_cons_of_mem _ hs)
      refine ⟨_, rfl, _, rfl, a, _, rfl, .inl ⟨SqL.of k1', fun l hl => ⟨(by show 1 ≤ sizeLine; decide), fun l2 hl2 => ?_⟩⟩⟩
      have u1 := same_new (o := .tup ys') hl
      have u2 := u1.trans (same_new (o := .lst [V.ref l]) hl2)
      refine ⟨sp, l2, zz, _, rfl, rfl, u2 _ _ z1, upd_same, ?_, fun l3 hl3 => ?_⟩
      · rw [z2]
        show 14 + 1 ≤ sizeLine
        decide
      have u3 := u2.trans (same_new (o := .lst (zz ++ [V.ref l])) hl3)
      have dr3 := sqL_same u3 (sqL_same dl_sub Bd.dr)
      obtain ⟨e, rfl⟩ := Int.eq_ofNat_of_zero_le p0
      have he : e < (zz ++ [V.ref l]).length := by
        rw [List.length_append, z2]
        simp
        omega
      refine ⟨_, rfl, b, _, _, _, rfl, rfl, dr3, at_of (i := 0) rfl, l3, _, _, _, rfl, rfl, SqL.of upd_same, at_of (List.getElem?_eq_getElem he), ?_⟩
      refine q _ _ ((s1.trans J.sm).trans u3) ?_
      rcases List.mem_append.mp (List.getElem_mem he) with w | w
      · exact (z3 _ w).same (Same.trans dl_weak (dl_same u3))
      · rw [List.mem_singleton.mp w]
        have u23 : Same _ _ := (same_new (o := .lst [V.ref l]) hl2).trans (same_new (o := .lst (zz ++ [V.ref l])) hl3)
        refine ⟨.tuple (ts''.map pairD), .tup (SqT.of (dl_out (ok_not okd hl) (u23 _ _ upd_same))) (dps_same (Same.trans dl_weak (dl_same u3)) (told_dps k2)), fit2_of fun ds' ed => ?_⟩
        cases ed
        refine ⟨by rw [List.length_map]; omega, fun z hz => ?_⟩
        obtain ⟨t', ht', rfl⟩ := List.mem_map.mp hz
        exact pair_fitE (k4 t' ht')
end

/-! ### try with several clauses that name the error -/
abbrev Suite := Addr → Value → Option Addr → TS
def wAll (K : PySem.W.Frag) (out : WX) (D : Ends) : List (Value × Nat × Suite) → WX
  | [] => out
  | (c, i, ts) :: more => fun cls d σ H => ∃ yes, PySem.W.exmOne K cls c = some yes ∧
      (yes = true → ∀ e, H e = none → ts e cls d ⟨fun σ1 H1 => D.nx (σ1.set i none) H1, D.rt, fun σ1 H1 => D.bk (σ1.set i none) H1, fun σ1 H1 => D.ct (σ1.set i none) H1⟩ (σ.set i (some (.ref e))) H) ∧ (yes = false → wAll K out D more cls d σ H)
inductive Clauses (X : Cx) : List ExceptHandler → List (Value × Nat × Suite) → Prop
  | none : Clauses X [] []
  | more {x nm : Str} {c : Value} {i : Nat} {ts : Suite} {st : Stmt} {sts : List Stmt} {q1 q2 : Pos} {hds : List ExceptHandler} {l : List (Value × Nat × Suite)} (hi : X.N[i]? = some nm) (hl : X.env.kindOf nm = some .local) (hc : Names X x c)
      (hs : ∀ (e : Addr) (oe : Obj) (cls : Value) (d : Option Addr) (pn : List (Addr × Obj)), Zc cls d oe → (∃ fs, oe.data = .fields fs) → PSs (X.suite e ((e, oe) :: pn)) (st :: sts) (ts e cls d)) (rest : Clauses X hds l) :
      Clauses X (.ExceptHandler (some (.Name x q1)) (some nm) (st :: sts) q2 :: hds) ((c, i, ts) :: l)
theorem ps_tryN {X : Cx} {body : List Stmt} {h0 : ExceptHandler} {hds : List ExceptHandler} {l : List (Value × Nat × Suite)} {pos : Pos} {tb : WX → TS} {out : WX} (e1 : X.stack = X.env :: X.outer) (e2 : X.env.frame = some X.env.locals) (nd : X.N.Nodup) (tk : Takes X out)
    (hb : ∀ (W : WX) (pn : List (Addr × Obj)) (xe : Value → Shared → Prop), Takes (X.tr pn xe) W → PassesOwn (model X.prog X.w) X.A X.env xe → PSs (X.tr pn xe) body (tb W))
    (hh : Clauses X (h0 :: hds) l) : PS X (.Try body (h0 :: hds) [] [] pos) (fun D σ H => tb (wAll X.K out D l) D σ H) := by
  constructor
  intro pins s σ H D I h
  have okX := I.ok
  have fr : X.A.frames = some (X.env :: X.outer) := okX.frames.trans (by rw [e1])
  refine wpAny_Try_except (wpAny_mono ((hb (wAll X.K out D l) (X.pn ++ pins) (fun ev s₁ => wpAny (model X.prog X.w) X.A (noteFrame ev X.env) (fun _ s₂ => wpAny (model X.prog X.w) X.A (setFlight ev none) (fun _ s₃ =>
      wpAny (model X.prog X.w) X.A (handleBy ev X.env (h0 :: hds)) (SP X pins D) X.xe s₃) X.xe s₂) X.xe s₁) ?caught PassesOwn.looking).run [] s σ H D (I.toTry _) h) ?through fun _ _ z => z)
  case through =>
    intro fl s1 hsp
    cases fl with
    | next => exact let ⟨σ1, H1, J, q⟩ := hsp; wpAny_execs_nil ⟨σ1, H1, J.ofTry okX, q⟩
    | brk => exact let ⟨σ1, H1, J, q⟩ := hsp; ⟨σ1, H1, J.ofTry okX, q⟩
    | cont => exact let ⟨σ1, H1, J, q⟩ := hsp; ⟨σ1, H1, J.ofTry okX, q⟩
    | ret u => exact let ⟨v, σ1, H1, J, r, q⟩ := hsp; ⟨v, σ1, H1, J.ofTry okX, r, q⟩
  case caught =>
    intro u s1 flying
    obtain ⟨a, B, sI, pins1, σ1, H1, cls, d, rfl, J0, nb, up, sky, na, os, ag, wish⟩ := flying
    have J : Inv X pins σ1 H1 sI := J0.ofTry okX
    refine Sky.land (A := X.A) (env := X.env) (outer := X.outer) (L := X.env.locals) Zc.steady fr e2 (by rw [← e1]; exact sky) fun h3 fl3 up3 => ?_
    have J3 : Inv X pins σ1 H1 { s1 with heap := h3 } := J.landed nb fl3.1 (up.trans up3) os ag
    obtain ⟨o3, w3, g3, z3, d3⟩ := fl3.there
    have out_of : a ∉ frs (X.env :: X.outer) := fun hm => by
      obtain ⟨_, ob, g, notf⟩ := fl3.2.2.1.mem hm
      have same : o3 = ob := Option.some.inj (g3.symm.trans g)
      rw [same] at d3
      exact notf _ d3
    have nL : a ≠ X.env.locals := fun z => out_of (List.mem_filterMap.mpr ⟨X.env, .head _, e2.trans (by rw [z])⟩)
    have nF : a ∉ X.fs := fun hm => let ⟨e, he, q⟩ := List.mem_filterMap.mp hm; out_of (List.mem_filterMap.mpr ⟨e, .tail _ he, q⟩)
    have S3 := J3.suite g3 d3 na nL nF
    have each : ∀ {hs' : List ExceptHandler} {l' : List (Value × Nat × Suite)}, Clauses X hs' l' → wAll X.K out D l' cls d σ1 H1 → wpAny (model X.prog X.w) X.A (handleBy (.ref a) X.env hs') (SP X pins D) X.xe { s1 with heap := h3 } := by
      intro hs' l' C
      induction C with
      | none =>
        intro wo
        obtain ⟨k1, k2, k3, oe, vs, TB, oT, ts', he, hz, hd, ht, hr⟩ := id fl3
        have thrown : wpAny (model X.prog X.w) X.A (setFlight (.ref a) X.env.frame) (fun _ s4 => wpAny (model X.prog X.w) X.A (throw (.ref a) : Sem Flow) (SP X pins D) X.xe s4) X.xe { s1 with heap := h3 } := by
          rw [e2]
          refine HandSPX.setFlight_upZ fl3 fun h4 held up4 => wpAny_throw (tk _ _ ⟨a, B, sI, pins, σ1, H1, cls, d, rfl, J, nb, (up.trans up3).trans up4, .inr (.inr ?_), na, os, ag, wo⟩)
          rw [e1]
          exact held
        refine wpAny_handleBy_nil ?_
        unfold PySem.passOn
        refine wpAny_bind (wpAny_field he hd ht ?_)
        rw [if_neg (by simp : ¬ ((Value.ref TB == Value.none) = true))]
        first | exact wpAny_bind (wpAny_pure (wpAny_bind thrown)) | exact wpAny_bind thrown
      | @more x nm c i ts st sts q1 q2 hds2 l2 hi hl hc hs rest ih =>
        intro wo
        obtain ⟨yes, hy, on, off⟩ := wo
        have LM := PySem.W.exm_one (M := model X.prog X.w) J3.kIn (fun A Q E s k q => wpAny_typeOf_ref (k _ _ g3) (by rw [z3.1]; exact q)) hy
        have named : ∀ {Q : Value → Shared → Prop} {E : Value → Shared → Prop}, Q c { s1 with heap := h3 } → wpAny (model X.prog X.w) (X.A.mark (some (.ref a))) (eval (.Name x q1) X.env) Q E { s1 with heap := h3 } := fun {Q E} q => by
          obtain ⟨gl, dbg, m1 | ⟨m1, m2, m3⟩⟩ := hc
          · exact ld_glob (X := X.suite a ((a, o3) :: (X.pn ++ pins))) S3 gl m1 q dbg
          · exact ld_blt (X := X.suite a ((a, o3) :: (X.pn ++ pins))) S3 gl m1 m2 q m3 dbg
        refine wpAny_handleBy_cons (codeAny_handlers_test (named (LM.here ?_))) (by intro q; cases q)
        cases yes with
        | false => exact ih (off rfl)
        | true =>
          refine codeAny_handlers_suite_as (HandSPX.lands_againZ fl3 fun h4 fl4 up4 => ?_)
          obtain ⟨o4, w4, g4, z4, d4⟩ := fl4.there
          have J4 : Inv X pins σ1 H1 { s1 with heap := h4 } := J.landed nb fl4.1 ((up.trans up3).trans up4) os ag
          refine store_ok (X := X.suite a ((a, o4) :: (X.pn ++ pins))) (v := .ref a) (J4.suite g4 d4 na nL nF) nd hi (.inl hl) rfl (fun s5 S5 => ?_) (.inr hl)
          refine wpAny_mono ((hs a o4 cls d (X.pn ++ pins) z4 ⟨_, d4⟩).run [] s5 _ H1 _ S5 (on rfl a na)) (fun fl s6 hsp => ?_) fun _ _ z => z.elim
          have gone : ∀ {σ6 : L2.St} {H6 : Hp} {Q : Shared → Prop}, Inv (X.suite a ((a, o4) :: (X.pn ++ pins))) [] σ6 H6 s6 → (∀ s7, Inv X pins (σ6.set i Option.none) H6 s7 → Q s7) →
              wpAny (model X.prog X.w) X.A (do bindName X.env nm .none; unbindBehindTheSuite X.env nm q2) (fun _ s7 => Q s7) X.xe s6 := fun S6 k => gone_ok (S6.unsuite okX) nd hi hl k
          cases fl with
          | next => exact let ⟨_, _, S6, q6⟩ := hsp; gone S6 fun s7 J7 => ⟨_, _, J7, q6⟩
          | brk => exact let ⟨_, _, S6, q6⟩ := hsp; gone S6 fun s7 J7 => ⟨_, _, J7, q6⟩
          | cont => exact let ⟨_, _, S6, q6⟩ := hsp; gone S6 fun s7 J7 => ⟨_, _, J7, q6⟩
          | ret u => exact let ⟨_, _, _, S6, r6, q6⟩ := hsp; gone S6 fun s7 J7 => ⟨_, _, _, J7, r6, q6⟩
    exact each hh wish
/-! ### _law_met -/
abbrev sMet : Stmt := topS 50
theorem scMet : FnScope ["ask", "e"] ["ask"] (defScope sMet) := ⟨rfl, rfl, rfl, by decide +kernel, rfl, by decide +kernel, by decide +kernel⟩
/-- what an error of the class at C with the field f comes to -/
def CaughtAs (C : Addr) (f told : Str) (Q : VK) (cls : Value) (d : Option Addr) (H : Hp) : Prop := ∃ (dd : Addr) (v : V), cls = .ref C ∧ d = some dd ∧ H dd = some (.xd [(f, v)]) ∧ ∀ p, H p = none → Q (.ref p) (upd H p (.tup [.str told, v]))
def MetE (CE : Addr) (Q : VK) : XK := fun cls d H => CaughtAs CE "index" "even" Q cls d H
def TMet (CE : Addr) : (XK → Hp → VK → Prop) → Hp → VK → Prop := fun tl H Q => tl (MetE CE Q) H fun v H1 => 2 ≤ sizeLine ∧ ∀ p, H1 p = none → Q (.ref p) (upd H1 p (.tup [.str "told", v]))
theorem takes_len {X : Cx} {W W' : WX} (tk : Takes X W) (h : ∀ cls d σ H, σ.length = X.N.length → W' cls d σ H → W cls d σ H) : Takes X W' := fun u s' x => by
  obtain ⟨a, B, sI, pins, σ, H, cls, d, e, I, r1, r2, r3, r4, r5, r6, w⟩ := x
  exact tk u s' ⟨a, B, sI, pins, σ, H, cls, d, e, I, r1, r2, r3, r4, r5, r6, h cls d σ H I.len w⟩
theorem set_one {σ : L2.St} {v : V} (h : σ.length = 2) : (σ.set 1 (some v))[1]? = some (some v) := by
  rw [List.getElem?_set_self (by omega)]
theorem met_gives {X : Cx} {g CE : Addr} {cdg : Value} {q : Str} (mF : X.mg "HasEven" = some (.ref CE)) (tF : PySem.W.exmOne X.K (.ref CE) (.ref CE) = some true) (xF : XfC X.K CE) (nF : PySem.W.findIn X.K (.ref CE) "index" = some none) :
    LamX.GivesTo X ["ask", "e"] "_law_met" (defScope sMet) g cdg (defBody sMet) "ask" q (TMet CE) := by
  intro f c' s H Q tl act hc h
  refine ⟨_, pss_one (ps_tryN (X := (cxOf CX0 X.prog X.w X.K X.mg X.base ["ask", "e"] "_law_met" (defScope sMet) g cdg X.A X.stack s H E0).nox) (out := fun _ _ _ _ => False)
      (tb := fun W D σ H => ∃ Ech : XK, (∀ cls d σ' H', σ'.length = 2 → Ech cls d H' → W cls d σ' H') ∧ σ[0]? = some (some (.ref f)) ∧ H c' = some (LamX.CodeO c' q) ∧ tl Ech H fun v H1 => 2 ≤ sizeLine ∧ ∀ p, H1 p = none → D.rt (.ref p) (upd H1 p (.tup [.str "told", v])))
      rfl rfl scMet.nd LamX.takes0 (fun W pn xe tk _ => ?_)
      (.more (i := 1) (c := .ref CE) rfl rfl ⟨rfl, by decide, .inl mF⟩ (fun e oe cls d pn hz hf => pss_one (ps_ret (pe_tup (pa_cons pe_str (pa_cons (by exact pe_xf xF nF hz hf (pv 1)) pa_nil))))) .none)), ?_⟩
  · refine ⟨fun pins s' σ H' D I h' => ?_⟩
    obtain ⟨Ech, hW, h1, h2, h3⟩ := h'
    exact (pss_one (ps_ret (pe_tup (pa_cons pe_str (pa_cons (act (fun cls d _ H => Ech cls d H) pn xe Ech _ _ (takes_len tk fun cls d σ H hl h => hW cls d σ H hl h) (fun _ _ _ _ h => h)) pa_nil))))).run pins s' σ H' D I ⟨h1, h2, h3⟩
  · refine ⟨MetE CE Q, fun cls d σ' H' hl hm => ?_, rfl, hc, h⟩
    obtain ⟨dd, v, rfl, rfl, hd, k⟩ := hm
    refine ⟨true, tF, fun _ e he => ?_, fun z => Bool.noConfusion z⟩
    exact ⟨_, set_one hl, rfl, rfl, dd, _, v, rfl, hd, by simp [List.lookup], (by show 2 ≤ sizeLine; decide), k⟩
/-- a def whose code object is known to stand at c -/
structure FunC (K : PySem.W.Frag) (x : Str) (st : Stmt) (c f : Addr) (fd : FuncData) : Prop where
  ex : ∃ (oc : Value) (od : Option Addr) (kV doc pm : Value) (an : Option Addr) (ct : Value) (osl : Array (Option Value)),
    fd = PySem.W.fnOf x x (defArgs st) (defBody st) (defScope st) .none kV doc pm an (.ref c) ct ∧ K.lookup f = some ⟨oc, od, .func fd, osl⟩ ∧ PySem.W.codeIn K (.ref c) x = true
  kp : PySem.W.keepIn K (.ref f) = true
theorem FunC.fn {K : PySem.W.Frag} {x : Str} {st : Stmt} {c f : Addr} {fd : FuncData} (F : FunC K x st c f fd) : Fun K x x st f fd := by
  obtain ⟨oc, od, kV, doc, pm, an, ct, osl, e, lk, hc⟩ := F.ex
  exact ⟨⟨oc, od, kV, doc, pm, an, _, ct, osl, e, lk, hc⟩, F.kp⟩
theorem FunC.okX {P : Program} {w : World} {K : PySem.W.Frag} {mg : Str → Option Value} {base : Heap} {x : Str} {st : Stmt} {c f : Addr} {fd : FuncData} {N ps : List Str} {k : Nat} {sp : Sp} (F : FunC K x st c f fd) (S : FnScope N ps (defScope st)) (len : ∀ vs H Q E, sp vs H Q E → vs.length = ps.length)
    (hbody : ∀ (A : Around) (outer : List Env) (s : Shared) (H : Hp) (vs : List V) (Q : VK) (E : XK), Room k (A.deeper (envOfC x (defScope st) s.heap.objs.size f (.ref c))) → sp vs H Q E →
      ∃ t, PSs (cxOf (L2.CX P w) P w K mg base N x (defScope st) f (.ref c) A outer s H E) (defBody st) t ∧ t { nx := fun _ H' => Q .non H', rt := Q } (start N vs) H) : FnOk P w K mg base (L2.CX P w) (k + 1) f fd ps sp := by
  obtain ⟨oc, od, kV, doc, pm, an, ct, osl, rfl, lk, hcd⟩ := F.ex
  exact fn_of lk hcd S len fun A outer s H vs Q E hr hsp => hbody A outer s H vs Q E hr hsp
/-- what is known of _law_met and the error -/
structure Met (K : PySem.W.Frag) (mg : Str → Option Value) (CE : Addr) : Prop where
  ex : ∃ (g : Addr) (fd : FuncData), mg "_law_met" = some (.ref g) ∧ Fun K "_law_met" "_law_met" sMet g fd
  mF : mg "HasEven" = some (.ref CE)
  tF : PySem.W.exmOne K (.ref CE) (.ref CE) = some true
  xF : XfC K CE
  nF : PySem.W.findIn K (.ref CE) "index" = some none
theorem pe_met {X : Cx} {T : List (Addr × Str)} {CE c P : Addr} {k : Nat} {params : Arguments} {body : Expr} {scope : Scope} {t : XK → TE} {p lpos pos : Pos} (M : Met X.K X.mg CE) (hg : Gl X "_law_met")
    (TB : LamX.TabB X.base X.mg c P) (hcode : X.env.code = .ref c) (hmT : (P, X.env.qual ++ "<lambda>") ∈ T) (hu : ∀ p ∈ T, p.1 = P → p.2 = X.env.qual ++ "<lambda>") (hr : Room (k + 2) X.A) (L : LamX.LamS X.env.scope scope) (hdef : defaultsOf params X.env = ([], []))
    (hbind : ∀ (q : Str) (cl : List (Str × Addr)) (pm cv ctv : Value), bindArgs (PySem.W.kla_fn "<lambda>" q params body scope cl pm cv ctv) ⟨[], []⟩ = pure [])
    (hbody : ∀ (A : Around) (outer : List Env) (s : Shared) (H : Hp) (E : XK) (f c' : Addr), Room k (A.deeper (LamX.lamEnv X scope s.heap.objs.size f c')) → PE (LamX.lamCx X A outer s H E scope f c') body (t E)) :
    PE X (.Call (.Name "_law_met" p) [.Lambda params body scope lpos] [] pos) (LamX.tLam T (TMet CE) t) := by
  obtain ⟨g, fd, hm, F⟩ := M.ex
  have hb := F.binds (ps := ["ask"]) fun _ _ _ _ _ _ us hl => match us, hl with | [_], _ => rfl
  obtain ⟨oc, od, kV, doc, pm, an, cdv, ct, osl, rfl, lk, hcd⟩ := F.ex
  exact LamX.pe_lamcall hg hm F.kp lk hcd hb scMet rfl (.inl rfl) (met_gives M.mF M.tF M.xF M.nF) TB hcode hmT hu hr L hdef hbind hbody
theorem sqL_ext {K : PySem.W.Frag} {H H' : Hp} {a : Addr} {xs : List V} (e : LamX.ExtN H H') (h : SqL K H a xs) : SqL K H' a xs :=
  h.imp (fun h => h.imp (fun h => e _ _ h (by intro x z; cases z)) (fun ⟨o, h⟩ => ⟨o, e _ _ h (by intro x z; cases z)⟩)) id

abbrev sLaw : Stmt := topS 54
abbrev NL : List Str := ["script", "rows", "made", "draws", "told", "inner", "things", "thing", "due", "more", "at", "found", "bent", "k", "turn", "one", "others", "reason"]
theorem scLaw : FnScope NL ["script"] (defScope sLaw) := ⟨rfl, rfl, rfl, by decide +kernel, rfl, by decide +kernel, by decide +kernel⟩
abbrev lb (i : Nat) : Stmt := (defBody sLaw).getD i (.Pass ⟨0, 0, 0, 0⟩)
abbrev qLaw : Str := (envOfC "law" (defScope sLaw) 0 0 .none).qual ++ "<lambda>"
def Sm0 : PyData → Prop := SameS fun _ => False
/-- what the law calls -/
structure TL (P : Program) (w : World) (K : PySem.W.Frag) (mg : Str → Option Value) (base : Heap) (C CE : Addr) : Prop where
  bi : Bi mg
  cell : Has P w K mg base CX0 1 "_law_cell" ["script", "k"] (spLCell K)
  row : Has P w K mg base CX0 1 "_law_row" ["cell", "sizes"] (spLRow K)
  draft : Has P w K mg base CX0 2 "_law_draft" ["cell", "most", "is_even"] (spLDraft K)
  outs : Has P w K mg base CX0 2 "_law_outs" ["rows"] (spLOu K)
  grown : Has P w K mg base CX0 4 "_law_grown" ["rows"] (spLGr K)
  are : Has P w K mg base CX0 4 "_law_are_reasons" ["rows", "thing"] (spLAre K)
  bent : Has P w K mg base CX0 1 "_law_bent" ["told", "draws"] (spBent K)
  same1 : Has P w K mg base CX0 2 "_law_same" ["found", "due"] (spSame K Sm0)
  same3 : Has P w K mg base CX0 4 "_law_same" ["found", "due"] (spSame K (SameS (SameS Sm0)))
  met : Met K mg CE
  drc : DrC K C
  dr : mg "Draft" = some (.ref C)
  mkx : ∃ (f : Addr) (fd : FuncData), _root_.L2.Mk K C f ∧ Binds K fd ["self", "rows"] [] ∧ FnOk P w K mg base CX0 6 f fd ["self", "rows"] (spInit K C)
  reasons : HasM P w K mg base (L2.CX P w) 4 C "reasons" ["self"] (spReasons K C CE)
  areM : HasM P w K mg base (L2.CX P w) 5 C "are_reasons" ["self", "thing"] (spAreReasons K C CE)
  room : HasM P w K mg base (L2.CX P w) 5 C "room" ["self", "at"] (spRoom K C CE)
abbrev XL (P : Program) (w : World) (K : PySem.W.Frag) (mg : Str → Option Value) (base : Heap) (f c : Addr) (A : Around) (outer : List Env) (s : Shared) (H : Hp) (E : XK) : Cx := cxOf (L2.CX P w) P w K mg base NL "law" (defScope sLaw) f (.ref c) A outer s H E
theorem pe_makeH {X : Cx} {C : Addr} {k : Nat} {ps : List Str} {sp : Sp} {x : Str} {p pos : Pos} {e : Expr} {es : List Expr} {t : TA} (M : ∃ (f : Addr) (fd : FuncData), _root_.L2.Mk X.K C f ∧ Binds X.K fd ps [] ∧ FnOk X.prog X.w X.K X.mg X.base CX0 k f fd ps sp) (hr : Room (k + 1) X.A) (hg : Gl X x) (hm : X.mg x = some (.ref C)) (ha : PA X (e :: es) t)
    (hdb : (x == ("__debug__" : Str)) = false := by decide) (he : starEach (e :: es) X.env = (false, eval e X.env) :: starEach es X.env := by rfl) (hpl : (backTo pos (starEach es X.env)).any (·.1) = false := by rfl) : PE X (.Call (.Name x p) (e :: es) [] pos) (tMake C sp [] E0 t) := by
  obtain ⟨f, fd, a, b, c⟩ := M
  exact pe_make a c hr hg hm b .nil pass0 ha hdb he hpl
abbrev sgF (sc : Addr) (o1 o2 o3 o4 o5 o6 o7 o8 o9 o10 o11 o12 : Option V) : L2.St := [some (.ref sc), o1, o2, o3, o4, o5, o6, o7, o8, o9, o10, o11, o12, none, none, none, none, none]
def szL : List Int := (List.replicate 8 [15, 12, 14]).flatten ++ [14]
theorem szL_ok : SizesOk szL := ⟨by decide, by decide⟩
section
variable {P : Program} {w : World} {K : PySem.W.Frag} {mg : Str → Option Value} {base : Heap} {C CE f c tb : Addr} {T' : List (Addr × Str)} {A : Around} {outer : List Env} {s : Shared} {H0 : Hp} {E : XK}
theorem st0 (L : TL P w K mg base C CE) (hr : Room 10 (XL P w K mg base f c A outer s H0 E).A) : ∃ t, PS (XL P w K mg base f c A outer s H0 E) (lb 0) t ∧
    ∀ (D : Ends) (H : Hp) (sc : Addr) (ns : List Int) (o1 o2 o3 o4 o5 o6 o7 o8 o9 o10 o11 o12 : Option V), SqL K H sc (ns.map V.int) →
      (∀ H' l xs rs, Same H H' → H' l = some (.lst xs) → RowsL K H' xs rs → DraftG rs → noEven rs → rs.length ≤ 13 → D.nx (sgF sc (some (.ref l)) o2 o3 o4 o5 o6 o7 o8 o9 o10 o11 o12) H') →
      t D (sgF sc o1 o2 o3 o4 o5 o6 o7 o8 o9 o10 o11 o12) H := by
  have hu64 := hr.units
  have hu65x := hu65 hr
  have T := L.bi
  refine ⟨_, (ps_set (i := 1) scLaw.nd rfl (.inr rfl) (pe_callH L.draft (hr.mono (by decide)) (by rfl) pass0 (pa_cons (pe_callH L.cell (hr.mono (by decide)) (by rfl) pass0 (pa_cons (pv 0) (pa_cons pe_int pa_nil))) (pa_cons pe_int (pa_cons pe_bl pa_nil))))), ?_⟩
  intro D H sc ns o1 o2 o3 o4 o5 o6 o7 o8 o9 o10 o11 o12 hs q
  exact ⟨_, rfl, sc, ns, 0, rfl, hs, fun n => ⟨n, rfl, fun H' p xs rs s1 _ h1 h2 h3 h4 h5 => q H' p xs rs s1 h1 h2 h3 h4 h5⟩⟩
theorem st1 (L : TL P w K mg base C CE) (hr : Room 10 (XL P w K mg base f c A outer s H0 E).A) : ∃ t, PS (XL P w K mg base f c A outer s H0 E) (lb 1) t ∧
    ∀ (D : Ends) (H : Hp) (sc l : Addr) (ns : List Int) (xs : List V) (rs : List Row) (o2 o3 o4 o5 o6 o7 o8 o9 o10 o11 o12 : Option V), SqL K H sc (ns.map V.int) → H l = some (.lst xs) → RowsL K H xs rs → DraftG rs →
      (∀ H' x d out, Same H H' → DraftV K H' C x rs → H' d = some (.lst (out.map V.int)) → Drawn szL out → D.nx (sgF sc (some (.ref l)) (some (.ref x)) (some (.ref d)) o4 o5 o6 o7 o8 o9 o10 o11 o12) H') →
      t D (sgF sc (some (.ref l)) o2 o3 o4 o5 o6 o7 o8 o9 o10 o11 o12) H := by
  have hu64 := hr.units
  have hu65x := hu65 hr
  have T := L.bi
  refine ⟨_, (ps_asg (pe_tup (pa_cons (pe_makeH L.mkx (hr.mono (by decide)) (by rfl) L.dr (pa_cons (pv 1) pa_nil)) (pa_cons (pe_callH L.row (hr.mono (by decide)) (by rfl) pass0 (pa_cons (pe_callH L.cell (hr.mono (by decide)) (by rfl) pass0 (pa_cons (pv 0) (pa_cons pe_int pa_nil))) (pa_cons (pe_op op_cat (pe_op op_rep (pe_lst (pa_cons pe_int (pa_cons pe_int (pa_cons pe_int pa_nil)))) pe_int) (pe_lst (pa_cons pe_int pa_nil))) pa_nil))) pa_nil))) (pg_tup rfl (pgs_cons (pg_name (i := 2) scLaw.nd rfl (.inl rfl)) (pgs_cons (pg_name (i := 3) scLaw.nd rfl (.inr rfl)) pgs_nil)))), ?_⟩
  intro D H sc l ns xs rs o2 o3 o4 o5 o6 o7 o8 o9 o10 o11 o12 hs hl hrs hG q
  refine ⟨_, rfl, fun x dx hx hdx hne => ?_⟩
  have s1 := (same_new (o := .own x) hdx).trans (same_new (o := .ins C dx []) (H := upd H dx (.own x)) (by rw [upd_ne hne.symm]; exact hx))
  refine ⟨x, l, dx, xs, rs, rfl, upd_same, SqL.of (s1 _ _ hl), rowsL_same s1 hrs, G_ok hG, fun H2 kp hdr => ⟨rfl, ?_⟩⟩
  have s2 : Same H H2 := fun b o e => kp b o (ne_of_none e hx) (s1 _ _ e)
  refine ⟨_, rfl, sc, ns, 1, rfl, sqL_same s2 hs, fun n => ?_⟩
  refine ⟨(by show 3 ≤ sizeLine; decide), fun p1 hp1 => ⟨p1, 8, _, rfl, rfl, upd_same, by decide, by decide, (by show 3 * 8 ≤ sizeLine; decide), fun p2 hp2 => ⟨(by show 1 ≤ sizeLine; decide), fun p3 hp3 => ?_⟩⟩⟩
  have n23 : p2 ≠ p3 := ne_of_none upd_same hp3
  refine ⟨p2, p3, _, _, rfl, rfl, by rw [upd_ne n23]; exact upd_same, upd_same, (by show 25 ≤ sizeLine; decide), fun p4 hp4 => ?_⟩
  have t4 := (((same_new (o := .lst ([15, 12, 14].map V.int)) hp1).trans (same_new (o := .lst (List.replicate 8 ([15, 12, 14].map V.int)).flatten) hp2)).trans (same_new (o := .lst [V.int 14]) hp3)).trans (same_new (o := .lst (szL.map V.int)) hp4)
  refine ⟨n, p4, szL, rfl, SqL.of (by rw [upd_same]; rfl), szL_ok, fun H3 d out s3 _ hd dr => ⟨(by show 2 ≤ sizeLine; decide), fun p5 hp5 => ⟨p5, _, rfl, SqT.of upd_same, rfl, _, _, rfl, _, _, rfl, rfl, ?_⟩⟩⟩
  have t5 := (t4.trans s3).trans (same_new (o := .tup [V.ref x, V.ref d]) hp5)
  have hdr5 : DraftV K (upd H3 p5 (.tup [V.ref x, V.ref d])) C x rs := by
    obtain ⟨ok, a1, a2, a3, a4, a5, a6, h⟩ := hdr
    exact ⟨ok, a1, a2, a3, a4, a5, a6, h.same t5⟩
  exact q _ x d out (s2.trans t5) hdr5 ((same_new (o := .tup [V.ref x, V.ref d]) hp5) _ _ hd) dr
theorem st2 (L : TL P w K mg base C CE) (hr : Room 10 (XL P w K mg base f c A outer s H0 E).A) : ∃ t, PS (XL P w K mg base f c A outer s H0 E) (lb 2) t ∧
    ∀ (D : Ends) (H : Hp) (sc x : Addr) (rs : List Row) (o1 o3 o4 o5 o6 o7 o8 o9 o10 o11 o12 : Option V), DraftV K H C x rs → noEven rs →
      (∀ H' a ys ts, Same H H' → H a = none → H' a = some (.lst ys) → ToldV K H' ys ts → Tell rs [] ts → D.nx (sgF sc o1 (some (.ref x)) o3 (some (.ref a)) o5 o6 o7 o8 o9 o10 o11 o12) H') →
      t D (sgF sc o1 (some (.ref x)) o3 o4 o5 o6 o7 o8 o9 o10 o11 o12) H := by
  have hu64 := hr.units
  have hu65x := hu65 hr
  have T := L.bi
  refine ⟨_, (ps_set (i := 4) scLaw.nd rfl (.inr rfl) (pe_methH0 L.reasons (pv 2) (hr.mono (by decide)) (passes_call (W := fun cls d _ H => E cls d H) (takes_of rfl rfl rfl rfl) (fun _ _ _ _ h => h)))), ?_⟩
  intro D H sc x rs o1 o3 o4 o5 o6 o7 o8 o9 o10 o11 o12 hdr nE q
  obtain ⟨ok, a1, a2, a3, a4, a5, a6, h⟩ := id hdr
  exact ⟨_, rfl, x, a1, _, rfl, h.ins, rfl, x, rs, rfl, hdr, .inl ⟨nE, fun H' p ys ts s hp h1 h2 h3 => q H' p ys ts s hp h1 h2 h3⟩⟩
theorem st7 (L : TL P w K mg base C CE) (hr : Room 10 (XL P w K mg base f c A outer s H0 E).A) : ∃ t, PS (XL P w K mg base f c A outer s H0 E) (lb 7) t ∧
    ∀ (D : Ends) (H : Hp) (sc x : Addr) (rs : List Row) (o1 o3 o4 o5 o6 o7 o8 o9 o10 o11 o12 : Option V), DraftV K H C x rs → noEven rs →
      (∀ H' a ys ts, Same H H' → H a = none → H' a = some (.lst ys) → ToldV K H' ys ts → Tell rs [] ts → D.nx (sgF sc o1 (some (.ref x)) o3 (some (.ref a)) o5 o6 o7 o8 o9 o10 o11 o12) H') →
      t D (sgF sc o1 (some (.ref x)) o3 o4 o5 o6 o7 o8 o9 o10 o11 o12) H := by
  have hu64 := hr.units
  have hu65x := hu65 hr
  have T := L.bi
  refine ⟨_, (ps_set (i := 4) scLaw.nd rfl (.inr rfl) (pe_methH0 L.reasons (pv 2) (hr.mono (by decide)) (passes_call (W := fun cls d _ H => E cls d H) (takes_of rfl rfl rfl rfl) (fun _ _ _ _ h => h)))), ?_⟩
  intro D H sc x rs o1 o3 o4 o5 o6 o7 o8 o9 o10 o11 o12 hdr nE q
  obtain ⟨ok, a1, a2, a3, a4, a5, a6, h⟩ := id hdr
  exact ⟨_, rfl, x, a1, _, rfl, h.ins, rfl, x, rs, rfl, hdr, .inl ⟨nE, fun H' p ys ts s hp h1 h2 h3 => q H' p ys ts s hp h1 h2 h3⟩⟩
theorem st3 (L : TL P w K mg base C CE) (hr : Room 10 (XL P w K mg base f c A outer s H0 E).A) : ∃ t, PS (XL P w K mg base f c A outer s H0 E) (lb 3) t ∧
    ∀ (D : Ends) (H : Hp) (sc l : Addr) (xs : List V) (rs : List Row) (o2 o3 o4 o5 o6 o7 o8 o9 o10 o11 o12 : Option V), LRows K H l xs rs → rs.length ≤ 20 → noEven rs →
      (∀ H' a g, Same H H' → H a = none → H' a = some (.lst (g.map V.int)) → Inner rs g → D.nx (sgF sc (some (.ref l)) o2 o3 o4 (some (.ref a)) o6 o7 o8 o9 o10 o11 o12) H') →
      t D (sgF sc (some (.ref l)) o2 o3 o4 o5 o6 o7 o8 o9 o10 o11 o12) H := by
  have hu64 := hr.units
  have hu65x := hu65 hr
  have T := L.bi
  refine ⟨_, (ps_set (i := 5) scLaw.nd rfl (.inr rfl) (pe_lc (own := [("k", 13)]) (g := gName 13) (tt := tTest (tOp (rIn K true) (tVar 13) (tCall (spLOu K) [] E00 (tCons (tVar 1) tNil)))) (te := tVar 13) rfl scLaw.nd (pi_tup (pe_callH L.grown (hr.mono (by decide)) (by rfl) pass0 (pa_cons (pv 1) pa_nil))) (blkOk_by (N := NL) (sc := defScope sLaw) (by decide +kernel)) (fun _ _ _ _ _ => pg_name (i := 13) scLaw.nd rfl (.inl rfl)) (fun _ _ _ _ _ => pts_one (pt_cmpR op_notIn_seq (pv 13) (pe_callH L.outs (hr.mono (by decide)) (by rfl) pass0 (pa_cons (pv 1) pa_nil)) (by rfl))) (fun _ _ _ _ _ => (pv 13)))), ?_⟩
  intro D H sc l xs rs o2 o3 o4 o5 o6 o7 o8 o9 o10 o11 o12 hR h20 nE q
  refine ⟨_, rfl, l, xs, rs, rfl, hR, h20, nE, fun H1 p g s1 hp hg => ⟨p, rfl, ⟨_, hp⟩, fun Da hD => ?_⟩⟩
  have sk : ∀ {H4 : Hp}, (∀ b o, b ≠ Da → H1 b = some o → H4 b = some o) → Same H1 H4 := fun kp b o e => kp b o (ne_of_none e hD) e
  have gl : g.length ≤ 900 := by
    obtain ⟨n, pm, _, _⟩ := hg
    have h1 := fars_len rs n
    have h2 := inn_len rs
    have h3 := outs_len rs
    rw [pm.length_eq, zs_len, List.length_append]
    omega
  refine lc_it walk_tup (fun i H4 => (∀ b o, b ≠ Da → H1 b = some o → H4 b = some o) ∧ H4 Da = some (.lst (((g.take i).filter fun k => !decide (k ∈ zs (outs rs))).map V.int))) ⟨fun b o hb e => by rw [upd_ne hb]; exact e, upd_same⟩ (fun i H4 _ ⟨kp, _⟩ => sqT_same (sk kp) hp) ?_ ?_
  · rintro i y H4 H4' hi ⟨kp, hD4⟩ ⟨rfl, hy⟩
    have s4 := sk kp
    obtain ⟨k, hk, rfl⟩ : ∃ k, g[i]? = some k ∧ y = .int k := by
      rw [List.getElem?_map] at hy
      cases e : g[i]? with
      | none => rw [e] at hy; cases hy
      | some k =>
        rw [e] at hy
        exact ⟨k, rfl, (Option.some.inj hy).symm⟩
    refine ⟨rfl, _, rfl, _, rfl, l, xs, rs, rfl, hR.same (s1.trans s4), fun H5 o s5 _ ho => ⟨o, _, rfl, .inl (SqL.of ho), rfl, (by rw [nats_zs]; exact flat_ints _), _, rfl, ?_⟩⟩
    show if (!inV (.int k) (nats (outs rs))) = true then _ else _
    rw [nats_zs, inV_ints]
    have tk : g.take (i + 1) = g.take i ++ [k] := by
      rw [List.take_add_one, hk]
      rfl
    have hD5 := s5 _ _ hD4
    rw [tk, List.filter_append]
    have hi2 : i < g.length := (List.getElem?_eq_some_iff.mp hk).1
    cases c9 : decide (k ∈ zs (outs rs)) with
    | true =>
      have e9 : ([k].filter fun k => !decide (k ∈ zs (outs rs))) = [] := by simp [List.filter, c9]
      rw [e9, List.append_nil]
      exact iteF ⟨fun b o hb e => s5 _ _ (kp b o hb e), hD5⟩
    | false =>
      have e9 : ([k].filter fun k => !decide (k ∈ zs (outs rs))) = [k] := by simp [List.filter, c9]
      rw [e9]
      refine iteT ⟨_, rfl, _, hD5, ?_, fun b o hb e => ?_, ?_⟩
      · rw [List.length_map]
        have h1 : ((g.take i).filter fun k => !decide (k ∈ zs (outs rs))).length ≤ (g.take i).length := List.length_filter_le _ _
        rw [List.length_take] at h1
        exact small1000 (by omega)
      · rw [upd_ne hb]
        exact s5 _ _ (kp b o hb e)
      · rw [upd_same, List.map_append]
        rfl
  · rintro H4 ⟨kp, hD4⟩
    rw [List.length_map, List.take_length] at hD4
    have hDn : H Da = none := by
      cases e : H Da with
      | none => rfl
      | some u => rw [s1 _ _ e] at hD; cases hD
    exact q H4 Da _ (s1.trans (sk kp)) hDn hD4 (grown_inner hg)
end

/-- what reasons told -/
structure TO (K : PySem.W.Frag) (rs : List Row) (a : Addr) (ts : Tolds) (H : Hp) : Prop where
  ex : ∃ ys, H a = some (.lst ys) ∧ ToldV K H ys ts
  tell : Tell rs [] ts
  l1 : ts.length ≤ 20
  l2 : ∀ t ∈ ts, t.2.length ≤ 20
theorem TO.same {K : PySem.W.Frag} {rs : List Row} {a : Addr} {ts : Tolds} {H H' : Hp} (h : TO K rs a ts H) (e : Same H H') : TO K rs a ts H' := by
  obtain ⟨ys, h1, h2⟩ := h.ex
  exact ⟨⟨ys, e _ _ h1, told_of (fun a xs h => sqT_same e h) h2⟩, h.tell, h.l1, h.l2⟩
theorem to_of {K : PySem.W.Frag} {rs : List Row} {a : Addr} {ys : List V} {ts : Tolds} {H : Hp} (h1 : H a = some (.lst ys)) (h2 : ToldV K H ys ts) (h3 : Tell rs [] ts) (h4 : rs.length ≤ 20) : TO K rs a ts H := by
  obtain ⟨a1, a2⟩ := tell_len h3 0 rfl
  have := inn_len rs
  exact ⟨⟨ys, h1, h2⟩, h3, by omega, fun t ht => by have := a2 t ht; omega⟩
section
variable {P : Program} {w : World} {K : PySem.W.Frag} {mg : Str → Option Value} {base : Heap} {C CE f c tb : Addr} {T' : List (Addr × Str)} {A : Around} {outer : List Env} {s : Shared} {H0 : Hp} {E : XK}
theorem st4 (L : TL P w K mg base C CE) (hr : Room 10 (XL P w K mg base f c A outer s H0 E).A) : ∃ t, PS (XL P w K mg base f c A outer s H0 E) (lb 4) t ∧
    ∀ (D : Ends) (H : Hp) (sc a : Addr) (rs : List Row) (ts : Tolds) (o1 o2 o3 o5 o6 o7 o8 o9 o10 o11 o12 : Option V), TO K rs a ts H →
      (∀ H', Same H H' → D.nx (sgF sc o1 o2 o3 (some (.ref a)) o5 o6 o7 o8 o9 o10 o11 o12) H') →
      t D (sgF sc o1 o2 o3 (some (.ref a)) o5 o6 o7 o8 o9 o10 o11 o12) H := by
  have hu64 := hr.units
  have hu65x := hu65 hr
  have T := L.bi
  refine ⟨_, (ps_if (PW.pt (pw_or (pt_not (pt_val (pe_callB call_isi (by rfl) T.isinstance (by decide +kernel) (pa_cons (pv 4) (pa_cons (pe_bltn (v := .ty "list") (by rfl) T.list (by decide +kernel) rfl) pa_nil))))) (pw_or1 (pt_not (pt_val (pe_callB (cr_all rfl) (by rfl) T.all (by decide +kernel) (pa_cons (pe_lc (own := [("one", 15)]) (g := gName 15) (tt := tYes) (te := tAndV (tCB (rIsi K) (tCons (tVar 15) (tCons (tC (.ty "tuple")) tNil))) (tCB (rIsi K) (tCons (ixT K 15 1) (tCons (tC (.ty "tuple")) tNil)))) rfl scLaw.nd (pi_list (pv 4)) (blkOk_by (N := NL) (sc := defScope sLaw) (by decide +kernel)) (fun _ _ _ _ _ => pg_name (i := 15) scLaw.nd rfl (.inl rfl)) (fun _ _ _ _ _ => pts_nil) (fun _ _ _ _ _ => pe_and (pe_callB call_isi (by rfl) T.isinstance (by decide +kernel) (pa_cons (pv 15) (pa_cons (pe_bltn (v := .ty "tuple") (by rfl) T.tuple (by decide +kernel) rfl) pa_nil))) (pe_one (pe_callB call_isi (by rfl) T.isinstance (by decide +kernel) (pa_cons (pe_ix ix_tup (pv 15) pe_int (fun _ _ => rfl)) (pa_cons (pe_bltn (v := .ty "tuple") (by rfl) T.tuple (by decide +kernel) rfl) pa_nil)))))) pa_nil))))))) (pss_one (ps_ret pe_bl)) pss_nil), ?_⟩
  intro D H sc a rs ts o1 o2 o3 o5 o6 o7 o8 o9 o10 o11 o12 to q
  obtain ⟨ys, h1, h2⟩ := to.ex
  have l1 := to.l1
  have yl := h2.len
  refine ⟨_, rfl, .ref a, .ty "list", _, _, true, rfl, .ty "list", ty_list (SqL.of h1), (by have := kit_list1 (K := K) (.list []); exact this), _, rfl, ?_⟩
  refine iteF ⟨_, rfl, a, rfl, ⟨_, SqL.of h1⟩, fun Da hD => ?_⟩
  have sk : ∀ {H4 : Hp}, (∀ b o, b ≠ Da → H b = some o → H4 b = some o) → Same H H4 := fun kp b o e => kp b o (ne_of_none e hD) e
  refine lc_it walk_list (fun i H4 => (∀ b o, b ≠ Da → H b = some o → H4 b = some o) ∧ H4 Da = some (.lst ((List.replicate i true).map V.bl))) ⟨fun b o hb e => by rw [upd_ne hb]; exact e, upd_same⟩ (fun i H4 _ ⟨kp, _⟩ => SqL.of (sk kp _ _ h1)) ?_ ?_
  · rintro i y H4 H4' hi ⟨kp, hD4⟩ ⟨rfl, hy⟩
    have s4 := sk kp
    obtain ⟨t, ht, pa, pb, rfl, g1, g2⟩ := h2.get hy
    refine ⟨rfl, yes_go (iteT ⟨_, rfl, .ref pa, .ty "tuple", _, _, true, rfl, .ty "tuple", ty_tup (sqT_same s4 g1), (by have := kit_tup1 (K := K) (.tuple []); exact this), _, rfl, iteT ⟨_, rfl, pa, _, _, _, rfl, rfl, sqT_same s4 g1, at_of (i := 1) rfl, .ref pb, .ty "tuple", _, _, true, rfl, .ty "tuple", ty_tup (sqT_same s4 g2), (by have := kit_tup1 (K := K) (.tuple []); exact this), _, hD4, ?_, fun b o hb e => ?_, ?_⟩⟩)⟩
    · rw [List.length_map, List.length_replicate]
      exact small1000 (by omega)
    · rw [upd_ne hb]
      exact kp b o hb e
    · rw [upd_same, List.replicate_succ', List.map_append]
      rfl
  · rintro H4 ⟨kp, hD4⟩
    refine ⟨Da, _, rfl, SqL.of hD4, _, rfl, ?_⟩
    rw [rep_all]
    exact iteF (q H4 (sk kp))
theorem st5 (L : TL P w K mg base C CE) (hr : Room 10 (XL P w K mg base f c A outer s H0 E).A) : ∃ t, PS (XL P w K mg base f c A outer s H0 E) (lb 5) t ∧
    ∀ (D : Ends) (H : Hp) (sc l a g : Addr) (xs : List V) (rs : List Row) (ts : Tolds) (gs : List Int) (o2 o3 o6 o7 o8 o9 o10 o11 o12 : Option V), LRows K H l xs rs → rs.length ≤ 20 → noEven rs → TO K rs a ts H → H g = some (.lst (gs.map V.int)) → Inner rs gs →
      (∀ H', Same H H' → D.nx (sgF sc (some (.ref l)) o2 o3 (some (.ref a)) (some (.ref g)) o6 o7 o8 o9 o10 o11 o12) H') →
      t D (sgF sc (some (.ref l)) o2 o3 (some (.ref a)) (some (.ref g)) o6 o7 o8 o9 o10 o11 o12) H := by
  have hu64 := hr.units
  have hu65x := hu65 hr
  have T := L.bi
  refine ⟨_, (ps_if (PW.pt (pw_or (pt_not (pt_val (pe_callH L.are (hr.mono (by decide)) (by rfl) pass0 (pa_cons (pv 1) (pa_cons (pv 4) pa_nil))))) (pw_or1 (pt_cmpR (op_neD hu64) (pe_callB cr_sortedQ (by rfl) T.sorted (by decide +kernel) (pa_cons (pe_lc (own := [("k", 13), ("others", 16)]) (g := gE K 13 16) (tt := tYes) (te := tVar 13) rfl scLaw.nd (pi_list (pv 4)) (blkOk_by (N := NL) (sc := defScope sLaw) (by decide +kernel)) (fun _ _ _ _ _ => (pg_tup rfl (pgs_cons (pg_name (i := 13) scLaw.nd rfl (.inl rfl) (.inr rfl)) (pgs_cons (pg_name (i := 16) scLaw.nd rfl (.inl rfl) (.inr rfl)) pgs_nil)))) (fun _ _ _ _ _ => pts_nil) (fun _ _ _ _ _ => pv 13)) pa_nil)) (pv 5) (nomark _))))) (pss_one (ps_ret pe_bl)) pss_nil), ?_⟩
  intro D H sc l a g xs rs ts gs o2 o3 o6 o7 o8 o9 o10 o11 o12 hR h20 nE to hg hin q
  obtain ⟨ys, h1, h2⟩ := to.ex
  have l1 := to.l1
  have yl := h2.len
  have hfit : fit2 (.list (ts.map pairD)) := fit2_of fun ds e => by
    cases e
    refine ⟨by rw [List.length_map]; omega, fun z hz => ?_⟩
    obtain ⟨t, ht, rfl⟩ := List.mem_map.mp hz
    exact pair_fitE (to.l2 t ht)
  have hacc : areB rs (.list (ts.map pairD)) = true := tell_are to.tell 0 rfl
  refine ⟨_, rfl, _, rfl, l, xs, rs, .ref a, .list (ts.map pairD), rfl, hR, h20, nE, .dat (.lst (SqL.of h1) (told_dps h2)), hfit, fun H1 s1 => ⟨_, rfl, ?_⟩⟩
  rw [hacc]
  have h11 := s1 _ _ h1
  refine iteF ⟨_, rfl, a, rfl, ⟨_, SqL.of h11⟩, fun Da hD => ?_⟩
  have sk : ∀ {H4 : Hp}, (∀ b o, b ≠ Da → H1 b = some o → H4 b = some o) → Same H1 H4 := fun kp b o e => kp b o (ne_of_none e hD) e
  refine lc_it walk_list (fun i H4 => (∀ b o, b ≠ Da → H1 b = some o → H4 b = some o) ∧ H4 Da = some (.lst ((zs ((ts.map (·.1)).take i)).map V.int))) ⟨fun b o hb e => by rw [upd_ne hb]; exact e, upd_same⟩ (fun i H4 _ ⟨kp, _⟩ => SqL.of (sk kp _ _ h11)) ?_ ?_
  · rintro i y H4 H4' hi ⟨kp, hD4⟩ ⟨rfl, hy⟩
    have s4 := s1.trans (sk kp)
    obtain ⟨t, ht, pa, pb, rfl, g1, g2⟩ := h2.get hy
    have tk : (ts.map (·.1)).take (i + 1) = (ts.map (·.1)).take i ++ [t.1] := by
      rw [List.take_add_one, List.getElem?_map, ht]
      rfl
    refine ⟨pa, _, rfl, sqT_same s4 g1, rfl, _, _, rfl, _, _, rfl, rfl, rfl, yes_go (iteT ⟨_, rfl, _, hD4, ?_, fun b o hb e => ?_, ?_⟩)⟩
    · rw [List.length_map, zs_len, List.length_take]
      exact small1000 (by omega)
    · rw [upd_ne hb]
      exact kp b o hb e
    · rw [upd_same, tk, zs_app, List.map_append]
      rfl
  · rintro H4 ⟨kp, hD4⟩
    have s4 := sk kp
    have tl : (ts.map (·.1)).take ys.length = ts.map (·.1) := by
      rw [yl, List.take_of_length_le (by rw [List.length_map]; omega)]
    rw [tl] at hD4
    refine ⟨Da, zs (ts.map (·.1)), rfl, .inl (SqL.of hD4), by rw [zs_len, List.length_map]; omega, fun ss p pm srt hp => ?_⟩
    have s5 := same_new (o := .lst (ss.map V.int)) hp
    have hg5 := s5 _ _ (s4 _ _ (s1 _ _ hg))
    refine ⟨_, rfl, .list (ss.map .int), .list (gs.map .int), dp_ints (SqL.of upd_same), dp_ints (SqL.of hg5), ints_shaped _, ints_shaped _, _, rfl, ?_⟩
    rw [eqv_ints, decide_eq_true (told_inner hin to.tell srt pm)]
    exact iteF (q _ ((s1.trans s4).trans s5))
theorem st8 (L : TL P w K mg base C CE) (hr : Room 10 (XL P w K mg base f c A outer s H0 E).A) : ∃ t, PS (XL P w K mg base f c A outer s H0 E) (lb 8) t ∧
    ∀ (D : Ends) (H : Hp) (sc l a g : Addr) (xs : List V) (rs : List Row) (ts : Tolds) (gs : List Int) (o2 o3 o6 o7 o8 o9 o10 o11 o12 : Option V), LRows K H l xs rs → rs.length ≤ 20 → noEven rs → TO K rs a ts H → H g = some (.lst (gs.map V.int)) → Inner rs gs →
      (∀ H', Same H H' → D.nx (sgF sc (some (.ref l)) o2 o3 (some (.ref a)) (some (.ref g)) o6 o7 o8 o9 o10 o11 o12) H') →
      t D (sgF sc (some (.ref l)) o2 o3 (some (.ref a)) (some (.ref g)) o6 o7 o8 o9 o10 o11 o12) H := by
  have hu64 := hr.units
  have hu65x := hu65 hr
  have T := L.bi
  refine ⟨_, (ps_if (PW.pt (pw_or (pt_not (pt_val (pe_callH L.are (hr.mono (by decide)) (by rfl) pass0 (pa_cons (pv 1) (pa_cons (pv 4) pa_nil))))) (pw_or1 (pt_cmpR (op_neD hu64) (pe_callB cr_sortedQ (by rfl) T.sorted (by decide +kernel) (pa_cons (pe_lc (own := [("k", 13), ("others", 16)]) (g := gE K 13 16) (tt := tYes) (te := tVar 13) rfl scLaw.nd (pi_list (pv 4)) (blkOk_by (N := NL) (sc := defScope sLaw) (by decide +kernel)) (fun _ _ _ _ _ => (pg_tup rfl (pgs_cons (pg_name (i := 13) scLaw.nd rfl (.inl rfl) (.inr rfl)) (pgs_cons (pg_name (i := 16) scLaw.nd rfl (.inl rfl) (.inr rfl)) pgs_nil)))) (fun _ _ _ _ _ => pts_nil) (fun _ _ _ _ _ => pv 13)) pa_nil)) (pv 5) (nomark _))))) (pss_one (ps_ret pe_bl)) pss_nil), ?_⟩
  intro D H sc l a g xs rs ts gs o2 o3 o6 o7 o8 o9 o10 o11 o12 hR h20 nE to hg hin q
  obtain ⟨ys, h1, h2⟩ := to.ex
  have l1 := to.l1
  have yl := h2.len
  have hfit : fit2 (.list (ts.map pairD)) := fit2_of fun ds e => by
    cases e
    refine ⟨by rw [List.length_map]; omega, fun z hz => ?_⟩
    obtain ⟨t, ht, rfl⟩ := List.mem_map.mp hz
    exact pair_fitE (to.l2 t ht)
  have hacc : areB rs (.list (ts.map pairD)) = true := tell_are to.tell 0 rfl
  refine ⟨_, rfl, _, rfl, l, xs, rs, .ref a, .list (ts.map pairD), rfl, hR, h20, nE, .dat (.lst (SqL.of h1) (told_dps h2)), hfit, fun H1 s1 => ⟨_, rfl, ?_⟩⟩
  rw [hacc]
  have h11 := s1 _ _ h1
  refine iteF ⟨_, rfl, a, rfl, ⟨_, SqL.of h11⟩, fun Da hD => ?_⟩
  have sk : ∀ {H4 : Hp}, (∀ b o, b ≠ Da → H1 b = some o → H4 b = some o) → Same H1 H4 := fun kp b o e => kp b o (ne_of_none e hD) e
  refine lc_it walk_list (fun i H4 => (∀ b o, b ≠ Da → H1 b = some o → H4 b = some o) ∧ H4 Da = some (.lst ((zs ((ts.map (·.1)).take i)).map V.int))) ⟨fun b o hb e => by rw [upd_ne hb]; exact e, upd_same⟩ (fun i H4 _ ⟨kp, _⟩ => SqL.of (sk kp _ _ h11)) ?_ ?_
  · rintro i y H4 H4' hi ⟨kp, hD4⟩ ⟨rfl, hy⟩
    have s4 := s1.trans (sk kp)
    obtain ⟨t, ht, pa, pb, rfl, g1, g2⟩ := h2.get hy
    have tk : (ts.map (·.1)).take (i + 1) = (ts.map (·.1)).take i ++ [t.1] := by
      rw [List.take_add_one, List.getElem?_map, ht]
      rfl
    refine ⟨pa, _, rfl, sqT_same s4 g1, rfl, _, _, rfl, _, _, rfl, rfl, rfl, yes_go (iteT ⟨_, rfl, _, hD4, ?_, fun b o hb e => ?_, ?_⟩)⟩
    · rw [List.length_map, zs_len, List.length_take]
      exact small1000 (by omega)
    · rw [upd_ne hb]
      exact kp b o hb e
    · rw [upd_same, tk, zs_app, List.map_append]
      rfl
  · rintro H4 ⟨kp, hD4⟩
    have s4 := sk kp
    have tl : (ts.map (·.1)).take ys.length = ts.map (·.1) := by
      rw [yl, List.take_of_length_le (by rw [List.length_map]; omega)]
    rw [tl] at hD4
    refine ⟨Da, zs (ts.map (·.1)), rfl, .inl (SqL.of hD4), by rw [zs_len, List.length_map]; omega, fun ss p pm srt hp => ?_⟩
    have s5 := same_new (o := .lst (ss.map V.int)) hp
    have hg5 := s5 _ _ (s4 _ _ (s1 _ _ hg))
    refine ⟨_, rfl, .list (ss.map .int), .list (gs.map .int), dp_ints (SqL.of upd_same), dp_ints (SqL.of hg5), ints_shaped _, ints_shaped _, _, rfl, ?_⟩
    rw [eqv_ints, decide_eq_true (told_inner hin to.tell srt pm)]
    exact iteF (q _ ((s1.trans s4).trans s5))
theorem st6 (L : TL P w K mg base C CE) (hr : Room 10 (XL P w K mg base f c A outer s H0 E).A) : ∃ t, PS (XL P w K mg base f c A outer s H0 E) (lb 6) t ∧
    ∀ (D : Ends) (H : Hp) (sc a : Addr) (ys : List V) (o1 o2 o3 o5 o6 o7 o8 o9 o10 o11 o12 : Option V), H a = some (.lst ys) → ys.length ≤ 20 →
      (D.nx (sgF sc o1 o2 o3 (some (.ref a)) o5 o6 o7 o8 o9 o10 o11 o12) (upd H a (.lst (ys ++ [.str "more"])))) →
      t D (sgF sc o1 o2 o3 (some (.ref a)) o5 o6 o7 o8 o9 o10 o11 o12) H := by
  have hu64 := hr.units
  have hu65x := hu65 hr
  have T := L.bi
  refine ⟨_, (ps_expr (pe_bm PySem.F.plainAttrs_list PySem.F.slot_list_append PySem.F.type_list_append mt_append (pv 4) (pa_cons pe_str pa_nil))), ?_⟩
  intro D H sc a ys o1 o2 o3 o5 o6 o7 o8 o9 o10 o11 o12 h1 hl q
  exact ⟨_, rfl, .inl ⟨rfl, _, SqL.of h1⟩, a, ys, _, rfl, rfl, h1, small1000 (by omega), q⟩
theorem st9 (L : TL P w K mg base C CE) (hr : Room 10 (XL P w K mg base f c A outer s H0 E).A) : ∃ t, PS (XL P w K mg base f c A outer s H0 E) (lb 9) t ∧
    ∀ (D : Ends) (H : Hp) (sc a : Addr) (rs : List Row) (ts : Tolds) (o1 o2 o3 o5 o6 o7 o8 o9 o10 o11 o12 : Option V), TO K rs a ts H →
      (∀ H' th zs, Same H H' → H th = none → H' th = some (.lst zs) → zs.length = 9 → (∀ z ∈ zs, ∃ d, Th K (del H' th) z d ∧ fit2 d) → D.nx (sgF sc o1 o2 o3 (some (.ref a)) o5 (some (.ref th)) o7 o8 o9 o10 o11 o12) H') →
      t D (sgF sc o1 o2 o3 (some (.ref a)) o5 o6 o7 o8 o9 o10 o11 o12) H := by
  have hu64 := hr.units
  have hu65x := hu65 hr
  have T := L.bi
  refine ⟨_, (ps_set (i := 6) scLaw.nd rfl (.inl rfl) (pe_lst (pa_cons (pv 4) (pa_cons (pe_lst pa_nil) (pa_cons (pe_tup pa_nil) (pa_cons pe_non (pa_cons pe_int (pa_cons pe_str (pa_cons pe_dnewK (pa_cons (pe_lst (pa_cons (pe_tup pa_nil) pa_nil)) (pa_cons pe_bl pa_nil))))))))))), ?_⟩
  intro D H sc a rs ts o1 o2 o3 o5 o6 o7 o8 o9 o10 o11 o12 to q
  obtain ⟨ys, h1, h2⟩ := to.ex
  refine ⟨_, rfl, Nat.zero_le _, fun p1 hp1 => ⟨Nat.zero_le _, fun p2 hp2 => fun p3 hp3 => ⟨Nat.zero_le _, fun p4 hp4 => ⟨(by show 1 ≤ sizeLine; decide), fun p5 hp5 => ⟨(by show 9 ≤ sizeLine; decide), fun th hth => ?_⟩⟩⟩⟩⟩
  have t1 := same_new (o := .lst []) hp1
  have t2 := same_new (o := .tup []) hp2
  have t3 := same_new (o := .dK []) hp3
  have t4 := same_new (o := .tup []) hp4
  have t5 := same_new (o := .lst [V.ref p4]) hp5
  have e1 : upd (upd (upd (upd (upd H p1 (.lst [])) p2 (.tup [])) p3 (.dK [])) p4 (.tup [])) p5 (.lst [V.ref p4]) p1 = some (.lst []) := t5 _ _ (t4 _ _ (t3 _ _ (t2 _ _ upd_same)))
  have e2 : upd (upd (upd (upd (upd H p1 (.lst [])) p2 (.tup [])) p3 (.dK [])) p4 (.tup [])) p5 (.lst [V.ref p4]) p2 = some (.tup []) := t5 _ _ (t4 _ _ (t3 _ _ upd_same))
  have e3 : upd (upd (upd (upd (upd H p1 (.lst [])) p2 (.tup [])) p3 (.dK [])) p4 (.tup [])) p5 (.lst [V.ref p4]) p3 = some (.dK []) := t5 _ _ (t4 _ _ upd_same)
  have e4 : upd (upd (upd (upd (upd H p1 (.lst [])) p2 (.tup [])) p3 (.dK [])) p4 (.tup [])) p5 (.lst [V.ref p4]) p4 = some (.tup []) := t5 _ _ upd_same
  have e5 : upd (upd (upd (upd (upd H p1 (.lst [])) p2 (.tup [])) p3 (.dK [])) p4 (.tup [])) p5 (.lst [V.ref p4]) p5 = some (.lst [V.ref p4]) := upd_same
  have t15 := (((t1.trans t2).trans t3).trans t4).trans t5
  generalize upd (upd (upd (upd (upd H p1 (.lst [])) p2 (.tup [])) p3 (.dK [])) p4 (.tup [])) p5 (.lst [V.ref p4]) = H5 at hth e1 e2 e3 e4 e5 t15
  have hthn : H th = none := by
    cases e : H th with
    | none => rfl
    | some u => rw [t15 _ _ e] at hth; cases hth
  have sd : Same H5 (del (upd H5 th (.lst [V.ref a, V.ref p1, V.ref p2, V.non, V.int 5, V.str "ab", V.ref p3, V.ref p5, V.bl true])) th) := fun b o e => by
    have : b ≠ th := ne_of_none e hth
    rw [del_ne this, upd_ne this]
    exact e
  have fe : ∀ ds, ds = ([] : List PyData) → fit2 (.list ds) ∧ fit2 (.tuple ds) := fun ds e => by
    subst e
    exact ⟨fit2_of fun ds e => by cases e; exact ⟨Nat.zero_le _, fun z hz => by cases hz⟩, fit2_of fun ds e => by cases e; exact ⟨Nat.zero_le _, fun z hz => by cases hz⟩⟩
  have fn : ∀ d, items d = none → fit2 d := fun d h ds e => by rw [h] at e; cases e
  refine q _ th _ (t15.trans (same_new hth)) hthn upd_same rfl fun z hz => ?_
  have c0 : ∃ d, Th K H5 (.ref a) d ∧ fit2 d := by
    obtain ⟨d, h, h'⟩ := (told_LV (K := K) h1 h2 to.l1 to.l2).th (by omega)
    exact ⟨d, th_same t15 (.dat h), h'⟩
  have all : ∀ z ∈ [V.ref a, V.ref p1, V.ref p2, V.non, V.int 5, V.str "ab", V.ref p3, V.ref p5, V.bl true], ∃ d, Th K H5 z d ∧ fit2 d := by
    intro z hz
    simp only [List.mem_cons, List.mem_nil_iff, or_false] at hz
    rcases hz with rfl | rfl | rfl | rfl | rfl | rfl | rfl | rfl | rfl
    · exact c0
    · exact ⟨.list [], .dat (.lst (SqL.of e1) .nil), (fe _ rfl).1⟩
    · exact ⟨.tuple [], .dat (.tup (SqT.of e2) .nil), (fe _ rfl).2⟩
    · exact ⟨.none, .dat .non, fn _ rfl⟩
    · exact ⟨.int 5, .dat (.int 5), fn _ rfl⟩
    · exact ⟨.str "ab", .dat (.str _), fn _ rfl⟩
    · exact ⟨.dict [], .dct e3, fn _ rfl⟩
    · refine ⟨.list [.tuple []], .dat (.lst (SqL.of e5) (.cons (.tup (SqT.of e4) .nil) .nil)), fit2_of fun ds e => ?_⟩
      cases e
      refine ⟨by show 1 ≤ 50; decide, fun z hz => ?_⟩
      rw [List.mem_singleton.mp hz]
      intro es e o ho
      cases e
      cases ho
    · exact ⟨.bool true, .dat (.bl true), fn _ rfl⟩
  obtain ⟨d, h, h'⟩ := all z hz
  exact ⟨d, th_same sd h, h'⟩
end

theorem cut3 {out : List Int} {i : Nat} {a b c : Int} (hl : out.length = 25) (hi : i < 8) (h1 : out[3 * i]? = some a) (h2 : out[3 * i + 1]? = some b) (h3 : out[3 * i + 2]? = some c) : cutV (out.map V.int) (some (3 * (i : Int))) (some (3 * (i : Int) + 3)) = [.int a, .int b, .int c] := by
  have e1 : HT.sIx (out.map V.int).length 0 (some (3 * (i : Int))) = 3 * i := by
    rw [List.length_map, hl]
    unfold HT.sIx
    dsimp only
    rw [if_neg (by omega)]
    omega
  have e2 : HT.sIx (out.map V.int).length (out.map V.int).length (some (3 * (i : Int) + 3)) = 3 * i + 3 := by
    rw [List.length_map, hl]
    unfold HT.sIx
    dsimp only
    rw [if_neg (by omega)]
    omega
  unfold cutV
  rw [e1, e2]
  have e3 : 3 * i + 3 - 3 * i = 3 := by omega
  rw [e3]
  apply List.ext_getElem?
  intro j
  rw [List.getElem?_take, List.getElem?_drop, List.getElem?_map]
  match j with
  | 0 => rw [if_pos (by omega), Nat.add_zero, h1]; rfl
  | 1 => rw [if_pos (by omega), h2]; rfl
  | 2 => rw [if_pos (by omega), h3]; rfl
  | j + 3 => rw [if_neg (by omega)]; rfl
theorem szL_at : ∀ i, i < 8 → szL[3 * i]? = some 15 ∧ szL[3 * i + 1]? = some 12 ∧ szL[3 * i + 2]? = some 14 := by decide
theorem dl_del {H : Hp} {a b : Addr} : Same (dl [a, b] H) (del H a) := fun x o e => by
  unfold dl at e
  split at e
  · cases e
  · rename_i hx
    rw [del_ne fun z => hx (by rw [z]; simp)]
    exact e
section
variable {P : Program} {w : World} {K : PySem.W.Frag} {mg : Str → Option Value} {base : Heap} {C CE f c tb : Addr} {T' : List (Addr × Str)} {A : Around} {outer : List Env} {s : Shared} {H0 : Hp} {E : XK}
theorem st10 (L : TL P w K mg base C CE) (hr : Room 10 (XL P w K mg base f c A outer s H0 E).A) : ∃ t, PS (XL P w K mg base f c A outer s H0 E) (lb 10) t ∧
    ∀ (D : Ends) (H : Hp) (sc a th d : Addr) (rs : List Row) (ts : Tolds) (zs : List V) (ou : List Int) (o1 o2 o5 o7 o8 o9 o10 o11 o12 : Option V), TO K rs a ts (del H th) → del H th d = some (.lst (ou.map V.int)) → Drawn szL ou → H th = some (.lst zs) → zs.length = 9 → (∀ z ∈ zs, ∃ d, Th K (del H th) z d ∧ fit2 d) →
      (∀ H' zs', (∀ b o, b ≠ th → H b = some o → H' b = some o) → H' th = some (.lst zs') → zs'.length ≤ 20 → (∀ z ∈ zs', ∃ d, Th K H' z d ∧ fit2 d) → D.nx (sgF sc o1 o2 (some (.ref d)) (some (.ref a)) o5 (some (.ref th)) o7 o8 o9 o10 o11 o12) H') →
      t D (sgF sc o1 o2 (some (.ref d)) (some (.ref a)) o5 (some (.ref th)) o7 o8 o9 o10 o11 o12) H := by
  have hu64 := hr.units
  have hu65x := hu65 hr
  have T := L.bi
  refine ⟨_, (ps_expr (pe_bm PySem.F.plainAttrs_list PySem.F.slot_list_extend PySem.F.type_list_extend mt_extend (pv 6) (pa_cons (pe_lc (own := [("turn", 14)]) (g := gName 14) (tt := tYes) (te := tCall (spBent K) [] E00 (tCons (tVar 4) (tCons (tSl (rSlL K) (tVar 3) (tPart (tOp (rI CMul fun i j => .int (i * j)) (tC (.int 3)) (tVar 14))) (tPart (tOp (rI0 fun i j => .int (i + j)) (tOp (rI CMul fun i j => .int (i * j)) (tC (.int 3)) (tVar 14)) (tC (.int 3))))) tNil))) rfl scLaw.nd (pi_range1 (by rfl) T.range (pa_cons pe_int pa_nil)) (blkOk_by (N := NL) (sc := defScope sLaw) (by decide +kernel)) (fun _ _ _ _ _ => pg_name (i := 14) scLaw.nd rfl (.inl rfl)) (fun _ _ _ _ _ => pts_nil) (fun _ _ _ _ _ => (pe_callH L.bent (hr.mono (by decide)) (by rfl) pass0 (pa_cons (pv 4) (pa_cons (pe_slice sl_list (pv 3) (po_some (pe_op op_mul pe_int (pv 14))) (po_some (pe_op op_add (pe_op op_mul pe_int (pv 14)) pe_int))) pa_nil))))) pa_nil))), ?_⟩
  intro D H sc a th d rs ts zs ou o1 o2 o5 o7 o8 o9 o10 o11 o12 to hd dr hth hzl hz q
  obtain ⟨ys, h1, h2⟩ := to.ex
  have ol : ou.length = 25 := dr.1
  refine ⟨_, rfl, .inl ⟨rfl, _, SqL.of hth⟩, 8, rfl, by decide, by decide, fun Dn hD => ?_⟩
  have nD : Dn ≠ th := fun z => by rw [z, hth] at hD; cases hD
  have dth : ∀ {x : Addr} {o : HO}, del H th x = some o → x ≠ th ∧ H x = some o := fun {x o} e => by
    by_cases c : x = th
    · rw [c, del_same] at e
      cases e
    · rw [del_ne c] at e
      exact ⟨c, e⟩
  refine lc_it (walk_range (lo := 0) (n := 8)) (fun i H4 => (∀ b o, b ≠ Dn → H b = some o → H4 b = some o) ∧ ∃ acc, H4 Dn = some (.lst acc) ∧ acc.length = i ∧ ∀ z ∈ acc, TH K z (dl [th, Dn] H4)) ⟨fun b o hb e => by rw [upd_ne hb]; exact e, [], upd_same, rfl, fun z hz => by cases hz⟩ (fun _ _ _ _ => trivial) ?_ ?_
  · rintro i y H4 H4' hi ⟨kp, acc, hD4, hal, hacc⟩ ⟨rfl, hy⟩
    have hy' : y = .int (i : Int) := by
      rw [hy]
      exact congrArg V.int (Int.zero_add _)
    subst hy'
    have s4 : Same H H4' := fun b o e => kp b o (ne_of_none e hD) e
    have sB : Same (del H th) (dl [th, Dn] H4') := fun x o e => by
      obtain ⟨c1, c2⟩ := dth e
      have c3 : x ≠ Dn := ne_of_none c2 hD
      refine dl_out (fun z => ?_) (s4 _ _ c2)
      rcases List.mem_cons.mp z with w | w
      · exact c1 w
      · exact c3 (List.mem_singleton.mp w)
    obtain ⟨z1, z2, z3⟩ := szL_at i hi
    obtain ⟨k0, e0, k0a, k0b⟩ := dr.2 _ _ z1
    obtain ⟨k1, e1, k1a, k1b⟩ := dr.2 _ _ z2
    obtain ⟨k2, e2, k2a, k2b⟩ := dr.2 _ _ z3
    have hd4 := s4 _ _ (dth hd).2
    refine ⟨rfl, yes_go (iteT ⟨_, rfl, _, rfl, _, rfl, _, _, rfl, rfl, .inl ⟨by decide, by decide⟩, _, rfl, _, rfl, _, _, rfl, rfl, .inl ⟨by decide, by decide⟩, _, _, rfl, rfl, _, rfl, d, _, rfl, SqL.of hd4, fun p hp => ?_⟩)⟩
    rw [cut3 ol hi e0 e1 e2]
    have s5 := same_new (o := .lst [V.int k0, V.int k1, V.int k2]) hp
    have sB5 := sB.trans (dl_same (A := [th, Dn]) s5)
    have ok5 : OkA [th, Dn] (upd H4' p (.lst [V.int k0, V.int k1, V.int k2])) := fun x hx z => by
      rcases List.mem_cons.mp hx with w | w
      · rw [w, s5 _ _ (s4 _ _ hth)] at z
        cases z
      · rw [List.mem_singleton.mp w, s5 _ _ hD4] at z
        cases z
    have pn : p ∉ [th, Dn] := fun z => by
      rcases List.mem_cons.mp z with w | w
      · rw [w, s4 _ _ hth] at hp
        cases hp
      · rw [List.mem_singleton.mp w, hD4] at hp
        cases hp
    refine ⟨[th, Dn], a, p, ys, ts, k0, k1, k2, rfl, ok5, sB5 _ _ h1, told_of (fun a xs h => sqT_same sB5 h) h2, to.l1, to.l2, SqL.of (dl_out pn upd_same), k0a, k0b, k1a, k2a, fun H6 v s6 tv => ⟨acc, s6 _ _ (s5 _ _ hD4), small1000 (by omega), fun b o hb e => ?_, acc ++ [v], upd_same, ?_, fun z hz => ?_⟩⟩
    · rw [upd_ne hb]
      exact s6 _ _ (s5 _ _ (kp b o hb e))
    · rw [List.length_append, hal]
      rfl
    · rw [dl_upd (by simp)]
      rcases List.mem_append.mp hz with w | w
      · exact (hacc z w).same (dl_same (s5.trans s6))
      · rw [List.mem_singleton.mp w]
        exact tv
  · rintro H4 ⟨kp, acc, hD4, hal, hacc⟩
    have s4 : Same H H4 := fun b o e => kp b o (ne_of_none e hD) e
    refine ⟨th, Dn, zs, acc, rfl, rfl, s4 _ _ hth, hD4, ?_, ?_⟩
    · have : zs.length + acc.length ≤ 1000 := by omega
      exact Nat.le_trans this (by decide)
    refine q _ (zs ++ acc) (fun b o hb e => by rw [upd_ne hb]; exact s4 _ _ e) upd_same (by rw [List.length_append]; omega) fun z hz' => ?_
    have up : Same (del H4 th) (upd H4 th (.lst (zs ++ acc))) := fun x o e => by
      by_cases cx : x = th
      · rw [cx, del_same] at e
        cases e
      · rw [del_ne cx] at e
        rw [upd_ne cx]
        exact e
    rcases List.mem_append.mp hz' with w | w
    · obtain ⟨dd, g1, g2⟩ := hz z w
      exact ⟨dd, th_same up (th_same (del_same_of s4) g1), g2⟩
    · obtain ⟨dd, g1, g2⟩ := hacc z w
      exact ⟨dd, .dat (dp_same up (dp_same dl_del g1)), g2⟩
theorem st11 (L : TL P w K mg base C CE) (hr : Room 10 (XL P w K mg base f c A outer s H0 E).A) : ∃ t, PS (XL P w K mg base f c A outer s H0 E) (lb 11) t ∧
    ∀ (D : Ends) (H : Hp) (sc l x th g : Addr) (xs : List V) (rs : List Row) (zs : List V) (gs : List Int) (o3 o4 o9 o10 o11 o12 : Option V), LRows K H l xs rs → rs.length ≤ 20 → noEven rs → DraftV K H C x rs → H g = some (.lst (gs.map V.int)) → Inner rs gs → H th = some (.lst zs) → (∀ z ∈ zs, ∃ d, Th K H z d ∧ fit2 d) →
      (∀ H' o7 o8, Same H H' → D.nx (sgF sc (some (.ref l)) (some (.ref x)) o3 o4 (some (.ref g)) (some (.ref th)) o7 o8 o9 o10 o11 o12) H') →
      ∀ o7 o8, t D (sgF sc (some (.ref l)) (some (.ref x)) o3 o4 (some (.ref g)) (some (.ref th)) o7 o8 o9 o10 o11 o12) H := by
  have hu64 := hr.units
  have hu65x := hu65 hr
  have T := L.bi
  refine ⟨_, (ps_for (passes_of rfl) rfl (pi_list (pv 6)) (pg_name (i := 7) scLaw.nd rfl (.inl rfl)) (pss_cons (ps_set (i := 8) scLaw.nd rfl (.inl rfl) (pe_callH L.are (hr.mono (by decide)) (by rfl) pass0 (pa_cons (pv 1) (pa_cons (pv 7) pa_nil))))
        (pss_cons (ps_if (pt_not (pt_val (pe_callH L.same1 (hr.mono (by decide)) (by rfl) pass0 (pa_cons (pe_methH L.areM (pv 2) (hr.mono (by decide)) (passes_call (W := fun cls d _ H => E cls d H) (takes_of rfl rfl rfl rfl) (fun _ _ _ _ h => h)) (pa_cons (pv 7) pa_nil)) (pa_cons (pv 8) pa_nil))))) (pss_one (ps_ret pe_bl)) pss_nil)
        (pss_one (ps_if (PW.pt (pw_and (pt_val (pv 8)) (pw_and1 (pt_not (pt_val (pe_callB (cr_all rfl) (by rfl) T.all (by decide +kernel) (pa_cons (pe_lc (own := [("reason", 17)]) (g := gName 17) (tt := tYes) (te := tOp (rIn K false) (tOp (rIx K) (tVar 17) (tC (.int 0))) (tVar 5)) rfl scLaw.nd (pi_seq (pv 7)) (blkOk_by (N := NL) (sc := defScope sLaw) (by decide +kernel)) (fun _ _ _ _ _ => pg_name (i := 17) scLaw.nd rfl (.inl rfl)) (fun _ _ _ _ _ => pts_nil) (fun _ _ _ _ _ => pe_cmpR op_in_seq (pe_ix ix_seq (pv 17) pe_int (fun _ _ => rfl)) (pv 5) (by rfl))) pa_nil))))))) (pss_one (ps_ret pe_bl)) pss_nil))))), ?_⟩
  intro D H sc l x th g xs rs zs gs o3 o4 o9 o10 o11 o12 hR h20 nE hdr hg hin hth hz q o7 o8
  refine ⟨_, rfl, th, rfl, ⟨_, SqL.of hth⟩, ?_⟩
  refine for_it walk_list (fun i σ H4 => ∃ o7 o8, σ = sgF sc (some (.ref l)) (some (.ref x)) o3 o4 (some (.ref g)) (some (.ref th)) o7 o8 o9 o10 o11 o12 ∧ Same H H4) ⟨o7, o8, rfl, Same.refl H⟩ (fun i σ H4 _ ⟨_, _, _, s4⟩ => SqL.of (s4 _ _ hth)) ?_ ?_
  · rintro i z σ H4 H4' hi ⟨u7, u8, rfl, s4⟩ ⟨rfl, hzi⟩
    obtain ⟨d, hth4, hfit⟩ := hz z (List.mem_of_getElem? hzi)
    refine ⟨_, rfl, _, rfl, l, xs, rs, z, d, rfl, hR.same s4, h20, nE, th_same s4 hth4, hfit, fun H5 s5 => ?_⟩
    have s45 := s4.trans s5
    obtain ⟨ok, a1, a2, a3, a4, a5, a6, hx⟩ := id hdr
    have hx5 := hx.same s45
    refine ⟨_, rfl, x, a1, _, rfl, hx5.ins, rfl, _, rfl, x, z, rs, rfl, ⟨ok, _, _, _, _, _, _, hx5⟩, .inl ⟨nE, d, th_same s45 hth4, fit2_T hfit, fun H6 s6 => ⟨_, rfl, .bl (areB rs d), .bl (areB rs d), .bool (areB rs d), rfl, .bl _, .bl _, trivial, fun H7 s7 => ⟨_, rfl, iteF ⟨_, rfl, _, rfl, ?_⟩⟩⟩⟩⟩
    have s47 := (s45.trans s6).trans s7
    cases hb : areB rs d with
    | false => exact iteF (iteF ⟨_, _, rfl, s47⟩)
    | true =>
    obtain ⟨ds, eds⟩ : ∃ ds, items d = some ds := by
      unfold areB at hb
      cases e : items d with
      | none => rw [e] at hb; cases hb
      | some ds => exact ⟨ds, rfl⟩
    have hare : areL rs [] ds = true := by
      unfold areB at hb
      rw [eds] at hb
      exact hb
    obtain ⟨n, hm, stop⟩ := hin.mems
    have acc := acc_all nE stop ds [] (fun k hk => by cases hk) hare
    obtain ⟨a0, zq, rfl, hs, ha⟩ := th_row (th_same s47 hth4) eds
    have lz := dps_len ha
    have f1 := (hfit ds eds).1
    have hg7 := s47 _ _ hg
    refine iteT ⟨_, rfl, a0, zq, rfl, hs, fun J Gd wk hG Dn hD => ?_⟩
    have sk : ∀ {H8 : Hp}, (∀ b o, b ≠ Dn → H7 b = some o → H8 b = some o) → Same H7 H8 := fun kp b o e => kp b o (ne_of_none e hD) e
    refine lc_it wk (fun i H8 => (∀ b o, b ≠ Dn → H7 b = some o → H8 b = some o) ∧ H8 Dn = some (.lst ((List.replicate i true).map V.bl))) ⟨fun b o hb e => by rw [upd_ne hb]; exact e, upd_same⟩ (fun i H8 _ ⟨kp, _⟩ => hG H8 (sqL_same (sk kp)) (sqT_same (sk kp))) ?_ ?_
    · rintro j y H8 H8' hj ⟨kp, hD8⟩ ⟨rfl, hy⟩
      have s8 := sk kp
      obtain ⟨dj, hdj, hdp⟩ := dps_get ha hy
      obtain ⟨k, o, ei, hk⟩ := acc dj (List.mem_of_getElem? hdj)
      obtain ⟨a2, xs2, rfl, hs2, ha2⟩ := th_row (.dat (dp_same s8 hdp)) ei
      have hv0 : xs2[0]? = some (.int k) := by
        cases ha2 with
        | cons g t => rw [dp_int g]; rfl
      have ixs : ∀ {R : VK}, R (.int k) H8' → rIx K (.ref a2) (.int (0 : Nat)) H8' R := fun {R} r => by
        rcases hs2 with hs2 | hs2
        · exact .inl ⟨a2, _, _, _, rfl, rfl, hs2, at_of hv0, r⟩
        · exact .inr (.inl ⟨a2, _, _, _, rfl, rfl, hs2, at_of hv0, r⟩)
      refine ⟨rfl, yes_go (iteT ⟨_, rfl, ixs ⟨_, rfl, g, _, rfl, .inl (SqL.of (s8 _ _ hg7)), rfl, flat_ints gs, ?_⟩⟩)⟩
      have e5 : (if false = true then !inV (V.int k) (gs.map V.int) else inV (V.int k) (gs.map V.int)) = true := by
        show inV (V.int k) (gs.map V.int) = true
        rw [inV_ints]
        exact decide_eq_true ((hm k).mpr hk)
      rw [e5]
      refine ⟨_, hD8, ?_, fun b o hb e => ?_, ?_⟩
      · rw [List.length_map, List.length_replicate]
        exact small1000 (by omega)
      · rw [upd_ne hb]
        exact kp b o hb e
      · rw [upd_same, List.replicate_succ', List.map_append]
        rfl
    · rintro H8 ⟨kp, hD8⟩
      refine ⟨Dn, _, rfl, SqL.of hD8, _, rfl, ?_⟩
      rw [rep_all]
      exact iteF ⟨_, _, rfl, s47.trans (sk kp)⟩
  · rintro σ H4 ⟨u7, u8, rfl, s4⟩
    exact q H4 u7 u8 s4
end

/-! ### rows as data -/
def RD : Row → PyData → Prop
  | .words _, d => ∃ ks : List Int, d = .tuple [.str "words", .list (ks.map .int)]
  | .label s, d => d = .tuple [.str "label", .str s]
  | .even n, d => d = .tuple [.str "even", .int n]
  | .branch c n m, d => d = .tuple [.str "branch", .str c, .str n, .int m]
theorem rd_of {K : PySem.W.Frag} {H : Hp} {v : V} {r : Row} (h : RowL K H v r) : ∃ d, Dp K H v d ∧ RD r d := by
  cases r with
  | words n =>
    obtain ⟨a, b, ks, rfl, h2, h3, _⟩ := h
    exact ⟨_, .tup h2 (.cons (.str _) (.cons (.lst h3 (dps_ints ks)) .nil)), ks, rfl⟩
  | label s =>
    obtain ⟨a, rfl, h2⟩ := h
    exact ⟨_, .tup h2 (.cons (.str _) (.cons (.str _) .nil)), rfl⟩
  | even n =>
    obtain ⟨a, rfl, h2⟩ := h
    exact ⟨_, .tup h2 (.cons (.str _) (.cons (.int _) .nil)), rfl⟩
  | branch c n m =>
    obtain ⟨a, rfl, h2⟩ := h
    exact ⟨_, .tup h2 (.cons (.str _) (.cons (.str _) (.cons (.str _) (.cons (.int _) .nil)))), rfl⟩
inductive RDs : List Row → List PyData → Prop
  | nil : RDs [] []
  | cons {r : Row} {rs : List Row} {d : PyData} {ds : List PyData} : RD r d → RDs rs ds → RDs (r :: rs) (d :: ds)
theorem rds_of {K : PySem.W.Frag} {H : Hp} : ∀ {xs : List V} {rs : List Row}, RowsL K H xs rs → ∃ ds, DpAll K H xs ds ∧ RDs rs ds
  | _, _, .nil => ⟨[], .nil, .nil⟩
  | _, _, .cons h t => by
    obtain ⟨d, a, b⟩ := rd_of h
    obtain ⟨ds, c, e⟩ := rds_of t
    exact ⟨d :: ds, .cons a c, .cons b e⟩
theorem rds_get : ∀ {rs : List Row} {ds : List PyData}, RDs rs ds → ∀ {i : Nat} {d : PyData}, ds[i]? = some d → ∃ r, rs[i]? = some r ∧ RD r d
  | _, _, .nil, i, d, h => by simp at h
  | _, _, .cons g t, 0, d, e => by
    obtain rfl : _ = d := Option.some.inj e
    exact ⟨_, rfl, g⟩
  | _, _, .cons g t, i + 1, d, e => rds_get t (i := i) e
theorem rds_len : ∀ {rs : List Row} {ds : List PyData}, RDs rs ds → rs.length = ds.length
  | _, _, .nil => rfl
  | _, _, .cons _ t => congrArg (· + 1) (rds_len t)
theorem ok_strs : (∀ s ∈ labs4, PyData.strOk s = true) ∧ (∀ s ∈ nmL, PyData.strOk s = true) ∧ (∀ s ∈ nearL, PyData.strOk s = true) := by decide +kernel
theorem ok_kinds : PyData.strOk ("words" : Str) = true ∧ PyData.strOk ("label" : Str) = true ∧ PyData.strOk ("even" : Str) = true ∧ PyData.strOk ("branch" : Str) = true := by decide +kernel
theorem rd_lay {r : Row} {d : PyData} (h : RD r d) (g : RowG r) : d.canLay0 = true ∧ d.depth ≤ 9 := by
  obtain ⟨z1, z2, z3, z4⟩ := ok_kinds
  obtain ⟨w1, w2, w3⟩ := ok_strs
  cases r with
  | words n =>
    obtain ⟨ks, rfl⟩ := h
    have h1 := ints_lay ks
    have h2 := ints_depth ks
    refine ⟨by simp [PyData.canLayAll0, PyData.canLay0, h1, z1], ?_⟩
    simp only [PyData.depth, PyData.depthAll]
    omega
  | label s =>
    obtain rfl := h
    have g := w1 s g
    exact ⟨by simp [PyData.canLayAll0, PyData.canLay0, z2, g], by simp [PyData.depth, PyData.depthAll]⟩
  | even s =>
    obtain rfl := h
    exact ⟨by simp [PyData.canLayAll0, PyData.canLay0, z3], by simp [PyData.depth, PyData.depthAll]⟩
  | branch c n m =>
    obtain rfl := h
    have g1 := w3 c g.1
    have g2 := w2 n g.2.1
    exact ⟨by simp [PyData.canLayAll0, PyData.canLay0, z4, g1, g2], by simp [PyData.depth, PyData.depthAll]⟩
theorem rds_lay : ∀ {rs : List Row} {ds : List PyData}, RDs rs ds → (∀ r ∈ rs, RowG r) → PyData.canLayAll0 ds = true ∧ PyData.depthAll ds ≤ 9
  | _, _, .nil, _ => ⟨rfl, by simp [PyData.depthAll]⟩
  | _, _, .cons h t, g => by
    obtain ⟨a, b⟩ := rd_lay h (g _ (by simp))
    obtain ⟨c, d⟩ := rds_lay t fun r hr => g r (List.mem_cons_of_mem _ hr)
    refine ⟨by simp [PyData.canLayAll0, a, c], ?_⟩
    simp only [PyData.depthAll]
    omega
theorem rds_shaped {rs : List Row} {ds : List PyData} (h : RDs rs ds) (g : ∀ r ∈ rs, RowG r) : SeqAt.shaped (.list ds) = true := by
  obtain ⟨a, b⟩ := rds_lay h g
  unfold SeqAt.shaped
  rw [Bool.and_eq_true]
  refine ⟨by simpa [PyData.canLay0] using a, decide_eq_true ?_⟩
  simp only [PyData.depth]
  omega
theorem ev_shaped : SeqAt.shaped (.tuple [.str "even", .int 4]) = true := by decide +kernel
theorem eqv_str (a b : Str) : PyData.eqv (.str a) (.str b) = decide (a = b) := by
  rw [PyData.eqv]
  by_cases h : a = b
  · subst h; simp
  · simp [h]
theorem rd_ev {r : Row} {d : PyData} (h : RD r d) (hr : isEvR r = false) : PyData.eqv d (.tuple [.str "even", .int 4]) = false := by
  cases r with
  | words n =>
    obtain ⟨ks, rfl⟩ := h
    rw [PyData.eqv, PyData.eqvAll, eqv_str, decide_eq_false (by decide +kernel)]
    rfl
  | label s =>
    obtain rfl := h
    rw [PyData.eqv, PyData.eqvAll, eqv_str, decide_eq_false (by decide +kernel)]
    rfl
  | even s => cases hr
  | branch c n m =>
    obtain rfl := h
    rw [PyData.eqv, PyData.eqvAll, eqv_str, decide_eq_false (by decide +kernel)]
    rfl
theorem ev_self : PyData.eqv (.tuple [.str "even", .int 4]) (.tuple [.str "even", .int 4]) = true := by
  rw [PyData.eqv, PyData.eqvAll, PyData.eqvAll, PyData.eqvAll, eqv_str, eqv_int]
  rfl
def bentRows (rs : List Row) (i : Nat) : List Row := (rs.take i ++ [.even 4] ++ rs.drop i) ++ [.even 2]
theorem bent_G {rs : List Row} (i : Nat) (h : DraftG rs) (hl : rs.length ≤ 13) : DraftG (bentRows rs i) := by
  have h1 : DraftG (rs.take i ++ [Row.even 4] ++ rs.drop i) := G_ins i h ⟨by decide, by decide⟩ (by omega) fun s e => by cases e
  have l1 := (ins_perm rs i (Row.even 4)).length_eq
  rw [List.length_cons] at l1
  have h2 := G_ins (r := Row.even 2) (rs.take i ++ [Row.even 4] ++ rs.drop i).length h1 ⟨by decide, by decide⟩ (by omega) fun s e => by cases e
  rw [List.take_length, List.drop_length, List.append_nil] at h2
  exact h2
theorem bent_first {rs : List Row} {i : Nat} (hi : i ≤ rs.length) (nE : noEven rs) : firstEv (bentRows rs i) i ∧ (bentRows rs i)[i]? = some (.even 4) := by
  have lt : (rs.take i).length = i := by rw [List.length_take]; omega
  have at_i : (bentRows rs i)[i]? = some (.even 4) := by
    unfold bentRows
    rw [List.append_assoc, List.append_assoc, List.getElem?_append_right (by omega), lt, Nat.sub_self]
    rfl
  refine ⟨⟨by rw [isEv_at at_i], fun j hj => ?_⟩, at_i⟩
  have e : (bentRows rs i)[j]? = rs[j]? := by
    unfold bentRows
    rw [List.append_assoc, List.append_assoc, List.getElem?_append_left (by omega), List.getElem?_take, if_pos hj]
  have := nE j
  unfold isEv at this ⊢
  rw [e]
  exact this
section
variable {P : Program} {w : World} {K : PySem.W.Frag} {mg : Str → Option Value} {base : Heap} {C CE f c tb : Addr} {T' : List (Addr × Str)} {A : Around} {outer : List Env} {s : Shared} {H0 : Hp} {E : XK}
theorem st12 (L : TL P w K mg base C CE) (hr : Room 10 (XL P w K mg base f c A outer s H0 E).A) : ∃ t, PS (XL P w K mg base f c A outer s H0 E) (lb 12) t ∧
    ∀ (D : Ends) (H : Hp) (sc l : Addr) (xs : List V) (o2 o3 o4 o5 o6 o7 o8 o9 o10 o11 o12 : Option V), H l = some (.lst xs) →
      (∀ m, H m = none → D.nx (sgF sc (some (.ref l)) o2 o3 o4 o5 o6 o7 o8 (some (.ref m)) o10 o11 o12) (upd H m (.lst xs))) →
      t D (sgF sc (some (.ref l)) o2 o3 o4 o5 o6 o7 o8 o9 o10 o11 o12) H := by
  have hu64 := hr.units
  have hu65x := hu65 hr
  have T := L.bi
  refine ⟨_, (ps_set (i := 9) scLaw.nd rfl (.inl rfl) (pe_callTy call_list_of (by rfl) T.list (by decide +kernel) (pa_cons (pv 1) pa_nil))), ?_⟩
  intro D H sc l xs o2 o3 o4 o5 o6 o7 o8 o9 o10 o11 o12 hl q
  exact ⟨_, rfl, l, xs, rfl, .inl (SqL.of hl), fun m hm => q m hm⟩
theorem st13 (L : TL P w K mg base C CE) (hr : Room 10 (XL P w K mg base f c A outer s H0 E).A) : ∃ t, PS (XL P w K mg base f c A outer s H0 E) (lb 13) t ∧
    ∀ (D : Ends) (H : Hp) (sc l d m : Addr) (xs ys : List V) (ou : List Int) (o2 o4 o5 o6 o7 o8 o10 o11 o12 : Option V), H l = some (.lst xs) → xs.length ≤ 20 → ys.length ≤ 20 → H d = some (.lst (ou.map V.int)) → Drawn szL ou → H m = some (.lst ys) →
      (∀ (i : Nat) p, i ≤ xs.length → H p = none → D.nx (sgF sc (some (.ref l)) o2 (some (.ref d)) o4 o5 o6 o7 o8 (some (.ref m)) o10 o11 o12) (upd (upd H p (.tup [.str "even", .int 4])) m (.lst (ys.take i ++ [.ref p] ++ ys.drop i)))) →
      t D (sgF sc (some (.ref l)) o2 (some (.ref d)) o4 o5 o6 o7 o8 (some (.ref m)) o10 o11 o12) H := by
  have hu64 := hr.units
  have hu65x := hu65 hr
  have T := L.bi
  refine ⟨_, (ps_expr (pe_bm PySem.F.plainAttrs_list PySem.F.slot_list_insert PySem.F.type_list_insert mt_insert (pv 9) (pa_cons (pe_op op_mod (pe_ix ix_list (pv 3) pe_int (fun _ _ => rfl)) (pe_op op_add (pe_callB call_len_seq (by rfl) T.len (by decide +kernel) (pa_cons (pv 1) pa_nil)) pe_int)) (pa_cons (pe_tup (pa_cons pe_str (pa_cons pe_int pa_nil))) pa_nil)))), ?_⟩
  intro D H sc l d m xs ys ou o2 o4 o5 o6 o7 o8 o10 o11 o12 hl xl yl hd dr hm q
  obtain ⟨e, e1, e2, e3⟩ := dr.2 24 14 rfl
  have pos : (0 : Int) < ((xs.length : Nat) : Int) + 1 := by omega
  have i0 : 0 ≤ e % (((xs.length : Nat) : Int) + 1) := Int.emod_nonneg _ (by omega)
  have i1 : e % (((xs.length : Nat) : Int) + 1) < ((xs.length : Nat) : Int) + 1 := Int.emod_lt_of_pos _ pos
  refine ⟨_, rfl, .inl ⟨rfl, _, SqL.of hm⟩, _, rfl, d, _, _, _, rfl, rfl, SqL.of hd, at_of (i := 24) (by rw [List.getElem?_map, e1]; rfl), _, rfl, l, _, rfl, .inl (SqL.of hl), _, _, rfl, rfl, _, _, rfl, rfl, pos, (by show 2 ≤ sizeLine; decide), fun p hp => ?_⟩
  have nm : m ≠ p := ne_of_none hm hp
  exact ⟨m, ys, _, _, rfl, rfl, by rw [upd_ne nm]; exact hm, small1000 (by omega), i0, by omega, q _ p (by omega) hp⟩
theorem st14 (L : TL P w K mg base C CE) (hr : Room 10 (XL P w K mg base f c A outer s H0 E).A) : ∃ t, PS (XL P w K mg base f c A outer s H0 E) (lb 14) t ∧
    ∀ (D : Ends) (H : Hp) (sc m : Addr) (ys : List V) (o1 o2 o3 o4 o5 o6 o7 o8 o10 o11 o12 : Option V), ys.length ≤ 20 → H m = some (.lst ys) →
      (∀ p, H p = none → D.nx (sgF sc o1 o2 o3 o4 o5 o6 o7 o8 (some (.ref m)) o10 o11 o12) (upd (upd H p (.tup [.str "even", .int 2])) m (.lst (ys ++ [.ref p])))) →
      t D (sgF sc o1 o2 o3 o4 o5 o6 o7 o8 (some (.ref m)) o10 o11 o12) H := by
  have hu64 := hr.units
  have hu65x := hu65 hr
  have T := L.bi
  refine ⟨_, (ps_expr (pe_bm PySem.F.plainAttrs_list PySem.F.slot_list_append PySem.F.type_list_append mt_append (pv 9) (pa_cons (pe_tup (pa_cons pe_str (pa_cons pe_int pa_nil))) pa_nil))), ?_⟩
  intro D H sc m ys o1 o2 o3 o4 o5 o6 o7 o8 o10 o11 o12 yl hm q
  refine ⟨_, rfl, .inl ⟨rfl, _, SqL.of hm⟩, (by show 2 ≤ sizeLine; decide), fun p hp => ?_⟩
  have nm : m ≠ p := ne_of_none hm hp
  exact ⟨m, ys, _, rfl, rfl, by rw [upd_ne nm]; exact hm, small1000 (by omega), q p hp⟩
theorem st15 (L : TL P w K mg base C CE) (hr : Room 10 (XL P w K mg base f c A outer s H0 E).A) : ∃ t, PS (XL P w K mg base f c A outer s H0 E) (lb 15) t ∧
    ∀ (D : Ends) (H : Hp) (sc m : Addr) (ys : List V) (rs : List Row) (i : Nat) (o1 o2 o3 o4 o5 o6 o7 o8 o10 o11 o12 : Option V), H m = some (.lst ys) → RowsL K H ys (bentRows rs i) → DraftG (bentRows rs i) → i ≤ rs.length → noEven rs →
      (∀ H' x, Same H H' → DraftV K H' C x (bentRows rs i) → D.nx (sgF sc o1 o2 o3 o4 o5 o6 o7 o8 (some (.ref m)) (some (.int (i : Int))) o11 (some (.ref x))) H') →
      t D (sgF sc o1 o2 o3 o4 o5 o6 o7 o8 (some (.ref m)) o10 o11 o12) H := by
  have hu64 := hr.units
  have hu65x := hu65 hr
  have T := L.bi
  refine ⟨_, (ps_asg (pe_tup (pa_cons (pe_makeH L.mkx (hr.mono (by decide)) (by rfl) L.dr (pa_cons (pv 9) pa_nil)) (pa_cons (pe_bm PySem.F.plainAttrs_list PySem.F.slot_list_index PySem.F.type_list_index (mt_indexD hu65x) (pv 9) (pa_cons (pe_tup (pa_cons pe_str (pa_cons pe_int pa_nil))) pa_nil)) pa_nil))) (pg_tup rfl (pgs_cons (pg_name (i := 12) scLaw.nd rfl (.inr rfl)) (pgs_cons (pg_name (i := 10) scLaw.nd rfl (.inl rfl)) pgs_nil)))), ?_⟩
  intro D H sc m ys rs i o1 o2 o3 o4 o5 o6 o7 o8 o10 o11 o12 hm hrs hG hi nE q
  refine ⟨_, rfl, fun x dx hx hdx hne => ?_⟩
  have s1 := (same_new (o := .own x) hdx).trans (same_new (o := .ins C dx []) (H := upd H dx (.own x)) (by rw [upd_ne hne.symm]; exact hx))
  refine ⟨x, m, dx, ys, _, rfl, upd_same, SqL.of (s1 _ _ hm), rowsL_same s1 hrs, G_ok hG, fun H2 kp hdr => ⟨rfl, ?_⟩⟩
  have s2 : Same H H2 := fun b o e => kp b o (ne_of_none e hx) (s1 _ _ e)
  refine ⟨_, rfl, .inl ⟨rfl, _, SqL.of (s2 _ _ hm)⟩, (by show 2 ≤ sizeLine; decide), fun p hp => ?_⟩
  have s3 := s2.trans (same_new (o := .tup [V.str "even", V.int 4]) hp)
  obtain ⟨ds, hd, hrd⟩ := rds_of (rowsL_same s3 hrs)
  obtain ⟨fe, at_i⟩ := bent_first hi nE
  have dl := rds_len hrd
  have hil : i < ds.length := by
    have := (List.getElem?_eq_some_iff.mp at_i).1
    omega
  have hdi : ds[i]? = some (.tuple [.str "even", .int 4]) := by
    have e := List.getElem?_eq_getElem hil
    obtain ⟨r, hr, hrr⟩ := rds_get hrd e
    rw [at_i] at hr
    cases hr
    rw [e]
    exact congrArg some hrr
  refine ⟨m, .ref p, .tuple [.str "even", .int 4], ds, i, _, rfl, rfl, .lst (SqL.of (s3 _ _ hm)) hd, .tup (SqT.of upd_same) (.cons (.str _) (.cons (.int _) .nil)), rds_shaped hrd hG.rows, ev_shaped, hdi, ev_self, fun j z hj hz => ?_, (by show 2 ≤ sizeLine; decide), fun p2 hp2 => ⟨p2, _, rfl, SqT.of upd_same, rfl, _, _, rfl, _, _, rfl, rfl, ?_⟩⟩
  · obtain ⟨r, hr, hrr⟩ := rds_get hrd hz
    refine rd_ev hrr ?_
    have := fe.2 j hj
    rw [isEv_at hr] at this
    cases r <;> first | rfl | cases this
  · have s4 := (same_new (o := .tup [V.str "even", V.int 4]) hp).trans (same_new (o := .tup [V.ref x, V.int (i : Nat)]) hp2)
    have hdr4 : ∀ {Hx : Hp}, Same H2 Hx → DraftV K Hx C x (bentRows rs i) := fun s4 => by
      obtain ⟨ok, a1, a2, a3, a4, a5, a6, h⟩ := hdr
      exact ⟨ok, a1, a2, a3, a4, a5, a6, h.same s4⟩
    exact q _ x (s2.trans s4) (hdr4 s4)
end

theorem sqT_ext {K : PySem.W.Frag} {H H' : Hp} {a : Addr} {xs : List V} (e : LamX.ExtN H H') (h : SqT K H a xs) : SqT K H' a xs :=
  h.imp (fun h => h.imp (fun h => e _ _ h (by intro x z; cases z)) (fun ⟨o, h⟩ => ⟨o, e _ _ h (by intro x z; cases z)⟩)) id
theorem draft_ext {K : PySem.W.Frag} {H H' : Hp} {C x : Addr} {rs : List Row} (e : LamX.ExtN H H') (h : DraftV K H C x rs) : DraftV K H' C x rs := by
  obtain ⟨ok, a1, a2, a3, a4, a5, a6, h⟩ := h
  exact ⟨ok, a1, a2, a3, a4, a5, a6, ⟨e _ _ h.ins (by intro x z; cases z), sqT_ext e h.parts, rowsP_of (fun _ _ => sqT_ext e) h.rows, sqT_ext e h.forks, e _ _ h.aims (by intro x z; cases z), sqT_ext e h.outs⟩⟩
/-- what HasEven comes to behind _law_met -/
theorem met_even {CE : Addr} {i : Nat} {Q : VK} {T : List (Addr × Str)} {H H1 : Hp} (e1 : LamX.ExtN H H1) (t1 : LamX.Tabs T H1) (q : ∀ p H', LamX.ExtN H H' → LamX.Tabs T H' → H' p = some (.tup [.str "even", .int (i : Int)]) → Q (.ref p) H') : EvE CE i H1 (MetE CE Q) := fun H' dx s hdx => by
  refine ⟨dx, .int (i : Int), rfl, rfl, upd_same, fun p hp => ?_⟩
  have s2 := (s.trans (same_new (o := .xd [("index", .int (i : Int))]) hdx)).trans (same_new (o := .tup [.str "even", .int (i : Int)]) hp)
  exact q _ _ (e1.trans (LamX.ExtN.of s2)) (t1.ext s2) upd_same
section
variable {P : Program} {w : World} {K : PySem.W.Frag} {mg : Str → Option Value} {base : Heap} {C CE f c tb : Addr} {T' : List (Addr × Str)} {A : Around} {outer : List Env} {s : Shared} {H0 : Hp} {E : XK}
theorem st16 (L : TL P w K mg base C CE) (TB : LamX.TabB base mg c tb) (hmT : (tb, qLaw) ∈ T') (hu : ∀ p ∈ T', p.1 = tb → p.2 = qLaw) (hr : Room 10 (XL P w K mg base f c A outer s H0 E).A) : ∃ t, PS (XL P w K mg base f c A outer s H0 E) (lb 16) t ∧
    ∀ (D : Ends) (H : Hp) (sc x : Addr) (rs : List Row) (i : Nat) (o1 o2 o3 o4 o5 o6 o7 o8 o9 o10 o11 : Option V), LamX.Tabs T' H → DraftV K H C x rs → firstEv rs i →
      (∀ H' r t1, LamX.ExtN H H' → LamX.Tabs T' H' → H' r = some (.lst [.ref t1]) → H' t1 = some (.tup [.str "even", .int (i : Int)]) → D.nx (sgF sc o1 o2 o3 o4 o5 o6 o7 o8 o9 o10 (some (.ref r)) (some (.ref x))) H') →
      t D (sgF sc o1 o2 o3 o4 o5 o6 o7 o8 o9 o10 o11 (some (.ref x))) H := by
  have hu64 := hr.units
  have hu65x := hu65 hr
  have T := L.bi
  refine ⟨_, (ps_set (i := 11) scLaw.nd rfl (.inl rfl) (pe_lst (pa_cons (pe_met (k := 6) L.met (by rfl) TB rfl hmT hu (hr.mono (by decide)) (LamX.lamS_by (show LamX.lamSB (defScope sLaw) _ = true by decide +kernel)) rfl (fun _ _ _ _ _ => rfl) fun A outer s H E f c' hr => (pe_methH0 L.reasons (pv 12) (hr.mono (by decide)) (passes_call (W := fun cls d _ H => E cls d H) (takes_of rfl rfl rfl rfl) (fun _ _ _ _ h => h)))) pa_nil))), ?_⟩
  intro D H sc x rs i o1 o2 o3 o4 o5 o6 o7 o8 o9 o10 o11 hT hdr hi q
  refine ⟨hT, fun H1 e1 t1 => ?_⟩
  have hdr1 := draft_ext e1 hdr
  obtain ⟨ok, a1, a2, a3, a4, a5, a6, h⟩ := id hdr1
  refine ⟨_, rfl, x, a1, _, rfl, h.ins, rfl, x, rs, rfl, hdr1, .inr ⟨i, hi, met_even e1 t1 fun p H2 e2 t2 h2 => ⟨(by show 1 ≤ sizeLine; decide), fun r hr => ?_⟩⟩⟩
  have s3 := same_new (o := .lst [V.ref p]) hr
  exact q _ r p (e2.trans (LamX.ExtN.of s3)) (t2.ext s3) upd_same (s3 _ _ h2)
theorem st17 (L : TL P w K mg base C CE) (TB : LamX.TabB base mg c tb) (hmT : (tb, qLaw) ∈ T') (hu : ∀ p ∈ T', p.1 = tb → p.2 = qLaw) (hr : Room 10 (XL P w K mg base f c A outer s H0 E).A) : ∃ t, PS (XL P w K mg base f c A outer s H0 E) (lb 17) t ∧
    ∀ (D : Ends) (H : Hp) (sc x r t1 : Addr) (rs : List Row) (i : Nat) (o1 o2 o3 o4 o5 o6 o7 o8 o9 o10 : Option V), LamX.Tabs T' H → DraftV K H C x rs → firstEv rs i → H r = some (.lst [.ref t1]) →
      (∀ H' t2, LamX.ExtN H H' → LamX.Tabs T' H' → H' t2 = some (.tup [.str "even", .int (i : Int)]) → H' r = some (.lst [.ref t1]) → D.nx (sgF sc o1 o2 o3 o4 o5 o6 o7 o8 o9 o10 (some (.ref r)) (some (.ref x))) (upd H' r (.lst [.ref t1, .ref t2]))) →
      t D (sgF sc o1 o2 o3 o4 o5 o6 o7 o8 o9 o10 (some (.ref r)) (some (.ref x))) H := by
  have hu64 := hr.units
  have hu65x := hu65 hr
  have T := L.bi
  refine ⟨_, (ps_expr (pe_bm PySem.F.plainAttrs_list PySem.F.slot_list_append PySem.F.type_list_append mt_append (pv 11) (pa_cons (pe_met (k := 6) L.met (by rfl) TB rfl hmT hu (hr.mono (by decide)) (LamX.lamS_by (show LamX.lamSB (defScope sLaw) _ = true by decide +kernel)) rfl (fun _ _ _ _ _ => rfl) fun A outer s H E f c' hr => (pe_methH L.areM (pv 12) (hr.mono (by decide)) (passes_call (W := fun cls d _ H => E cls d H) (takes_of rfl rfl rfl rfl) (fun _ _ _ _ h => h)) (pa_cons pe_non pa_nil))) pa_nil))), ?_⟩
  intro D H sc x r t1 rs i o1 o2 o3 o4 o5 o6 o7 o8 o9 o10 hT hdr hi hr q
  refine ⟨_, rfl, .inl ⟨rfl, _, SqL.of hr⟩, hT, fun H1 e1 t1e => ?_⟩
  have hdr1 := draft_ext e1 hdr
  obtain ⟨ok, a1, a2, a3, a4, a5, a6, h⟩ := id hdr1
  refine ⟨_, rfl, x, a1, _, rfl, h.ins, rfl, x, .non, rs, rfl, hdr1, .inr ⟨i, hi, met_even e1 t1e fun p H2 e2 t2e h2 => ?_⟩⟩
  have hr2 := e2 _ _ hr (by intro x z; cases z)
  exact ⟨r, _, _, rfl, rfl, hr2, (by show 1 < sizeLine; decide), q _ p e2 t2e h2 hr2⟩
theorem st18 (L : TL P w K mg base C CE) (TB : LamX.TabB base mg c tb) (hmT : (tb, qLaw) ∈ T') (hu : ∀ p ∈ T', p.1 = tb → p.2 = qLaw) (hr : Room 10 (XL P w K mg base f c A outer s H0 E).A) : ∃ t, PS (XL P w K mg base f c A outer s H0 E) (lb 18) t ∧
    ∀ (D : Ends) (H : Hp) (sc x r t1 t2 : Addr) (rs : List Row) (i : Nat) (o1 o2 o3 o4 o5 o6 o7 o8 o9 o10 : Option V), LamX.Tabs T' H → DraftV K H C x rs → firstEv rs i → H r = some (.lst [.ref t1, .ref t2]) →
      (∀ H' t3, LamX.ExtN H H' → LamX.Tabs T' H' → H' t3 = some (.tup [.str "even", .int (i : Int)]) → H' r = some (.lst [.ref t1, .ref t2]) → D.nx (sgF sc o1 o2 o3 o4 o5 o6 o7 o8 o9 o10 (some (.ref r)) (some (.ref x))) (upd H' r (.lst [.ref t1, .ref t2, .ref t3]))) →
      t D (sgF sc o1 o2 o3 o4 o5 o6 o7 o8 o9 o10 (some (.ref r)) (some (.ref x))) H := by
  have hu64 := hr.units
  have hu65x := hu65 hr
  have T := L.bi
  refine ⟨_, (ps_expr (pe_bm PySem.F.plainAttrs_list PySem.F.slot_list_append PySem.F.type_list_append mt_append (pv 11) (pa_cons (pe_met (k := 6) L.met (by rfl) TB rfl hmT hu (hr.mono (by decide)) (LamX.lamS_by (show LamX.lamSB (defScope sLaw) _ = true by decide +kernel)) rfl (fun _ _ _ _ _ => rfl) fun A outer s H E f c' hr => (pe_methH L.room (pv 12) (hr.mono (by decide)) (passes_call (W := fun cls d _ H => E cls d H) (takes_of rfl rfl rfl rfl) (fun _ _ _ _ h => h)) (pa_cons pe_non pa_nil))) pa_nil))), ?_⟩
  intro D H sc x r t1 t2 rs i o1 o2 o3 o4 o5 o6 o7 o8 o9 o10 hT hdr hi hr q
  refine ⟨_, rfl, .inl ⟨rfl, _, SqL.of hr⟩, hT, fun H1 e1 t1e => ?_⟩
  have hdr1 := draft_ext e1 hdr
  obtain ⟨ok, a1, a2, a3, a4, a5, a6, h⟩ := id hdr1
  refine ⟨_, rfl, x, a1, _, rfl, h.ins, rfl, x, .non, rs, rfl, hdr1, i, hi, met_even e1 t1e fun p H2 e2 t2e h2 => ?_⟩
  have hr2 := e2 _ _ hr (by intro x z; cases z)
  exact ⟨r, _, _, rfl, rfl, hr2, (by show 2 < sizeLine; decide), q _ p e2 t2e h2 hr2⟩
theorem st19 (L : TL P w K mg base C CE) (hr : Room 10 (XL P w K mg base f c A outer s H0 E).A) : ∃ t, PS (XL P w K mg base f c A outer s H0 E) (lb 19) t ∧
    ∀ (H : Hp) (Q : VK) (N : L2.St → Hp → Prop) (sc r t1 t2 t3 : Addr) (i : Nat) (o1 o2 o3 o4 o5 o6 o7 o8 o9 o12 : Option V), H r = some (.lst [.ref t1, .ref t2, .ref t3]) → H t1 = some (.tup [.str "even", .int (i : Int)]) → H t2 = some (.tup [.str "even", .int (i : Int)]) → H t3 = some (.tup [.str "even", .int (i : Int)]) → (∀ H', Q (.bl true) H') →
      t { nx := N, rt := Q } (sgF sc o1 o2 o3 o4 o5 o6 o7 o8 o9 (some (.int (i : Int))) (some (.ref r)) o12) H := by
  have hu64 := hr.units
  have hu65x := hu65 hr
  have T := L.bi
  refine ⟨_, (ps_ret (pe_callH L.same3 (hr.mono (by decide)) (by rfl) pass0 (pa_cons (pv 11) (pa_cons (pe_op op_rep (pe_lst (pa_cons (pe_tup (pa_cons pe_str (pa_cons (pv 10) pa_nil))) pa_nil)) pe_int) pa_nil)))), ?_⟩
  intro H Q N sc r t1 t2 t3 i o1 o2 o3 o4 o5 o6 o7 o8 o9 o12 hr h1 h2 h3 q
  have ev : ∀ {Hx : Hp} {p : Addr}, Hx p = some (.tup [.str "even", .int (i : Int)]) → Dp K Hx (.ref p) (.tuple [.str "even", .int (i : Int)]) := fun e => .tup (SqT.of e) (.cons (.str _) (.cons (.int _) .nil))
  refine ⟨_, rfl, _, rfl, (by show 2 ≤ sizeLine; decide), fun p1 hp1 => ⟨(by show 1 ≤ sizeLine; decide), fun p2 hp2 => ?_⟩⟩
  have n12 : p1 ≠ p2 := ne_of_none upd_same hp2
  refine ⟨p2, 3, _, rfl, rfl, upd_same, by decide, by decide, (by show 1 * 3 ≤ sizeLine; decide), fun p3 hp3 => ?_⟩
  have u1 := same_new (o := .tup [V.str "even", V.int (i : Nat)]) hp1
  have u2 := same_new (o := .lst [V.ref p1]) hp2
  have u3 := same_new (o := .lst (List.replicate 3 [V.ref p1]).flatten) hp3
  have u := (u1.trans u2).trans u3
  have hp1' := (u2.trans u3) _ _ (upd_same (H := H) (a := p1) (o := .tup [V.str "even", V.int (i : Nat)]))
  refine ⟨.ref r, .ref p3, .list [.tuple [.str "even", .int (i : Int)], .tuple [.str "even", .int (i : Int)], .tuple [.str "even", .int (i : Int)]], rfl, .lst (SqL.of (u _ _ hr)) (.cons (ev (u _ _ h1)) (.cons (ev (u _ _ h2)) (.cons (ev (u _ _ h3)) .nil))), .lst (SqL.of upd_same) (.cons (ev hp1') (.cons (ev hp1') (.cons (ev hp1') .nil))), ?_, fun H' _ => q H'⟩
  have s1 : SameS Sm0 (.tuple [.str "even", .int (i : Int)]) := ⟨by show 2 ≤ 900; decide, fun d hd => by
    rcases List.mem_cons.mp hd with e | e
    · rw [e]; trivial
    · rw [List.mem_singleton.mp e]; trivial⟩
  refine ⟨by show 3 ≤ 900; decide, fun d hd => ?_⟩
  simp only [List.mem_cons, List.mem_nil_iff, or_false, or_self] at hd
  rw [hd]
  exact s1
end

theorem tabs_put {T : List (Addr × Str)} {H : Hp} {r : Addr} {xs ys : List V} (h : LamX.Tabs T H) (hr : H r = some (.lst xs)) : LamX.Tabs T (upd H r (.lst ys)) := fun p hp => by
  obtain ⟨ps, h1, h2, h3⟩ := h p hp
  refine ⟨ps, ?_, h2, fun pos cv e => ?_⟩
  · have : p.1 ≠ r := fun z => by rw [z, hr] at h1; cases h1
    rw [upd_ne this]
    exact h1
  · obtain ⟨c, e1, e2⟩ := h3 pos cv e
    have : c ≠ r := fun z => by rw [z, hr] at e2; cases e2
    exact ⟨c, e1, by rw [upd_ne this]; exact e2⟩
theorem draft_put {K : PySem.W.Frag} {H : Hp} {C x r : Addr} {rs : List Row} {xs ys : List V} (h : DraftV K H C x rs) (hr : H r = some (.lst xs)) : DraftV K (upd H r (.lst ys)) C x rs := by
  obtain ⟨ok, a1, a2, a3, a4, a5, a6, h⟩ := h
  have nx : x ≠ r := fun z => by have := h.ins; rw [z, hr] at this; cases this
  have nd : a4 ≠ r := fun z => by have := h.aims; rw [z, hr] at this; cases this
  exact ⟨ok, a1, a2, a3, a4, a5, a6, ⟨by rw [upd_ne nx]; exact h.ins, sqT_put h.parts hr trivial, rowsP_of (fun _ _ h => sqT_put h hr trivial) h.rows, sqT_put h.forks hr trivial, by rw [upd_ne nd]; exact h.aims, sqT_put h.outs hr trivial⟩⟩
theorem draft_same {K : PySem.W.Frag} {H H' : Hp} {C x : Addr} {rs : List Row} (h : DraftV K H C x rs) (e : Same H H') : DraftV K H' C x rs := by
  obtain ⟨ok, a1, a2, a3, a4, a5, a6, h⟩ := h
  exact ⟨ok, a1, a2, a3, a4, a5, a6, h.same e⟩
def spLaw (K : PySem.W.Frag) (T : List (Addr × Str)) : Sp := fun vs H Q _ => ∃ (sc : Addr) (ns : List Int), vs = [.ref sc] ∧ SqL K H sc (ns.map V.int) ∧ LamX.Tabs T H ∧ ∀ H', Q (.bl true) H'
theorem ok_law {P : Program} {w : World} {K : PySem.W.Frag} {mg : Str → Option Value} {base : Heap} {C CE f c tb : Addr} {fd : FuncData} {T' : List (Addr × Str)} (F : FunC K "law" sLaw c f fd) (L : TL P w K mg base C CE) (TB : LamX.TabB base mg c tb) (hmT : (tb, qLaw) ∈ T') (hu : ∀ p ∈ T', p.1 = tb → p.2 = qLaw) :
    FnOk P w K mg base (L2.CX P w) 11 f fd ["script"] (spLaw K T') := by
  refine F.okX scLaw (fun vs H Q E h => ?_) (fun A outer s H vs Q E hr h => ?_)
  · obtain ⟨sc, ns, rfl, _⟩ := h
    rfl
  · obtain ⟨sc, ns, rfl, hs, hT, q⟩ := h
    obtain ⟨t0, h0, q0⟩ := st0 (E := E) (A := A) (outer := outer) (s := s) (H0 := H) (f := f) (c := c) L hr
    obtain ⟨t1, h1, q1⟩ := st1 (E := E) (A := A) (outer := outer) (s := s) (H0 := H) (f := f) (c := c) L hr
    obtain ⟨t2, h2, q2⟩ := st2 (E := E) (A := A) (outer := outer) (s := s) (H0 := H) (f := f) (c := c) L hr
    obtain ⟨t3, h3, q3⟩ := st3 (E := E) (A := A) (outer := outer) (s := s) (H0 := H) (f := f) (c := c) L hr
    obtain ⟨t4, h4, q4⟩ := st4 (E := E) (A := A) (outer := outer) (s := s) (H0 := H) (f := f) (c := c) L hr
    obtain ⟨t5, h5, q5⟩ := st5 (E := E) (A := A) (outer := outer) (s := s) (H0 := H) (f := f) (c := c) L hr
    obtain ⟨t6, h6, q6⟩ := st6 (E := E) (A := A) (outer := outer) (s := s) (H0 := H) (f := f) (c := c) L hr
    obtain ⟨t7, h7, q7⟩ := st7 (E := E) (A := A) (outer := outer) (s := s) (H0 := H) (f := f) (c := c) L hr
    obtain ⟨t8, h8, q8⟩ := st8 (E := E) (A := A) (outer := outer) (s := s) (H0 := H) (f := f) (c := c) L hr
    obtain ⟨t9, h9, q9⟩ := st9 (E := E) (A := A) (outer := outer) (s := s) (H0 := H) (f := f) (c := c) L hr
    obtain ⟨t10, h10, q10⟩ := st10 (E := E) (A := A) (outer := outer) (s := s) (H0 := H) (f := f) (c := c) L hr
    obtain ⟨t11, h11, q11⟩ := st11 (E := E) (A := A) (outer := outer) (s := s) (H0 := H) (f := f) (c := c) L hr
    obtain ⟨t12, h12, q12⟩ := st12 (E := E) (A := A) (outer := outer) (s := s) (H0 := H) (f := f) (c := c) L hr
    obtain ⟨t13, h13, q13⟩ := st13 (E := E) (A := A) (outer := outer) (s := s) (H0 := H) (f := f) (c := c) L hr
    obtain ⟨t14, h14, q14⟩ := st14 (E := E) (A := A) (outer := outer) (s := s) (H0 := H) (f := f) (c := c) L hr
    obtain ⟨t15, h15, q15⟩ := st15 (E := E) (A := A) (outer := outer) (s := s) (H0 := H) (f := f) (c := c) L hr
    obtain ⟨t16, h16, q16⟩ := st16 (E := E) (A := A) (outer := outer) (s := s) (H0 := H) (f := f) (c := c) L TB hmT hu hr
    obtain ⟨t17, h17, q17⟩ := st17 (E := E) (A := A) (outer := outer) (s := s) (H0 := H) (f := f) (c := c) L TB hmT hu hr
    obtain ⟨t18, h18, q18⟩ := st18 (E := E) (A := A) (outer := outer) (s := s) (H0 := H) (f := f) (c := c) L TB hmT hu hr
    obtain ⟨t19, h19, q19⟩ := st19 (E := E) (A := A) (outer := outer) (s := s) (H0 := H) (f := f) (c := c) L hr
    refine ⟨_, pss_cons h0 (pss_cons h1 (pss_cons h2 (pss_cons h3 (pss_cons h4 (pss_cons h5 (pss_cons h6 (pss_cons h7 (pss_cons h8 (pss_cons h9 (pss_cons h10 (pss_cons h11 (pss_cons h12 (pss_cons h13 (pss_cons h14 (pss_cons h15 (pss_cons h16 (pss_cons h17 (pss_cons h18 (pss_one h19))))))))))))))))))), ?_⟩
    refine q0 _ H sc ns _ _ _ _ _ _ _ _ _ _ _ _ hs fun H1 l xs rs s1 hl1 hrs1 hG nE h13 => ?_
    have xl : xs.length = rs.length := rowsV_len (rowsL_V hrs1)
    refine q1 _ H1 sc l ns xs rs _ _ _ _ _ _ _ _ _ _ _ (sqL_same s1 hs) hl1 hrs1 hG fun H2 x d ou s2 hdr2 hd2 dr => ?_
    have R2 : LRows K H2 l xs rs := ⟨SqL.of (s2 _ _ hl1), rowsL_V (rowsL_same s2 hrs1), by omega⟩
    have hl2 := s2 _ _ hl1
    refine q2 _ H2 sc x rs _ _ _ _ _ _ _ _ _ _ _ hdr2 nE fun H3 a ys ts s3 han hat tv tell => ?_
    have to3 : TO K rs a ts H3 := to_of hat tv tell (by omega)
    refine q3 _ H3 sc l xs rs _ _ _ _ _ _ _ _ _ _ _ (R2.same s3) (by omega) nE fun H4 g gs s4 hgn hg hin => ?_
    refine q4 _ H4 sc a rs ts _ _ _ _ _ _ _ _ _ _ _ (to3.same s4) fun H5 s5 => ?_
    have s35 := s4.trans s5
    refine q5 _ H5 sc l a g xs rs ts gs _ _ _ _ _ _ _ _ _ (R2.same (s3.trans s35)) (by omega) nE (to3.same s35) (s5 _ _ hg) hin fun H6 s6 => ?_
    have s36 := s35.trans s6
    have yl : ys.length ≤ 20 := by
      rw [tv.len]
      exact to3.l1
    refine q6 _ H6 sc a ys _ _ _ _ _ _ _ _ _ _ _ (s36 _ _ hat) yl ?_
    have s26 := s3.trans s36
    have s27 : Same H2 (upd H6 a (.lst (ys ++ [.str "more"]))) := fun b o e => by
      rw [upd_ne (ne_of_none e han)]
      exact s26 _ _ e
    have hg7 : upd H6 a (.lst (ys ++ [.str "more"])) g = some (.lst (gs.map V.int)) := by
      have : g ≠ a := fun z => by rw [z, hat] at hgn; cases hgn
      rw [upd_ne this]
      exact s6 _ _ (s5 _ _ hg)
    generalize upd H6 a (.lst (ys ++ [.str "more"])) = H7 at s27 hg7
    refine q7 _ H7 sc x rs _ _ _ _ _ _ _ _ _ _ _ (draft_same hdr2 s27) nE fun H8 a' ys' ts' s8 han' hat' tv' tell' => ?_
    have to8 : TO K rs a' ts' H8 := to_of hat' tv' tell' (by omega)
    have s28 := s27.trans s8
    refine q8 _ H8 sc l a' g xs rs ts' gs _ _ _ _ _ _ _ _ _ (R2.same s28) (by omega) nE to8 (s8 _ _ hg7) hin fun H9 s9 => ?_
    have s29 := s28.trans s9
    have hg9 := s9 _ _ (s8 _ _ hg7)
    have to9 := to8.same s9
    refine q9 _ H9 sc a' rs ts' _ _ _ _ _ _ _ _ _ _ _ to9 fun H10 th zz s10 hthn hth zl hz => ?_
    have sd : Same H9 (del H10 th) := fun b o e => by
      rw [del_ne (ne_of_none e hthn)]
      exact s10 _ _ e
    refine q10 _ H10 sc a' th d rs ts' zz ou _ _ _ _ _ _ _ _ _ (to9.same sd) (sd _ _ (s29 _ _ hd2)) dr hth zl hz fun H11 zs' kp11 hth11 zl11 hz11 => ?_
    have s911 : Same H9 H11 := fun b o e => kp11 b o (ne_of_none e hthn) (s10 _ _ e)
    have s211 := s29.trans s911
    refine q11 _ H11 sc l x th g xs rs zs' gs _ _ _ _ _ _ (R2.same s211) (by omega) nE (draft_same hdr2 s211) (s911 _ _ hg9) hin hth11 hz11 (fun H12 o7 o8 s12 => ?_) _ _
    have s212 := s211.trans s12
    have s112 := s2.trans s212
    have hl12 := s212 _ _ hl2
    have hd12 := s212 _ _ hd2
    refine q12 _ H12 sc l xs _ _ _ _ _ _ _ _ _ _ _ hl12 fun m hm => ?_
    have u1 := same_new (o := .lst xs) hm
    refine q13 _ _ sc l d m xs xs ou _ _ _ _ _ _ _ _ _ (u1 _ _ hl12) (by omega) (by omega) (u1 _ _ hd12) dr upd_same fun i p hi hp => ?_
    have pm : p ≠ m := fun z => by rw [z, upd_same] at hp; cases hp
    have pn : H12 p = none := by
      rw [upd_ne pm] at hp
      exact hp
    have u2 : Same H12 (upd (upd (upd H12 m (.lst xs)) p (.tup [.str "even", .int 4])) m (.lst (xs.take i ++ [.ref p] ++ xs.drop i))) := fun b o e => by
      rw [upd_ne (ne_of_none e hm), upd_ne (ne_of_none e pn), upd_ne (ne_of_none e hm)]
      exact e
    have hp14 : upd (upd (upd H12 m (.lst xs)) p (.tup [.str "even", .int 4])) m (.lst (xs.take i ++ [.ref p] ++ xs.drop i)) p = some (.tup [.str "even", .int 4]) := by
      rw [upd_ne pm]
      exact upd_same
    have hm14 : upd (upd (upd H12 m (.lst xs)) p (.tup [.str "even", .int 4])) m (.lst (xs.take i ++ [.ref p] ++ xs.drop i)) m = some (.lst (xs.take i ++ [.ref p] ++ xs.drop i)) := upd_same
    generalize upd (upd (upd H12 m (.lst xs)) p (.tup [.str "even", .int 4])) m (.lst (xs.take i ++ [.ref p] ++ xs.drop i)) = H14 at u2 hp14 hm14
    have l14 : (xs.take i ++ [V.ref p] ++ xs.drop i).length ≤ 20 := by
      have := (ins_perm xs i (V.ref p)).length_eq
      rw [List.length_cons] at this
      omega
    refine q14 _ H14 sc m _ _ _ _ _ _ _ _ _ _ _ _ l14 hm14 fun p2 hp2 => ?_
    have p2m : p2 ≠ m := fun z => by rw [z, hm14] at hp2; cases hp2
    have pp2 : p ≠ p2 := fun z => by rw [z] at hp14; rw [hp14] at hp2; cases hp2
    have u3 : Same H12 (upd (upd H14 p2 (.tup [.str "even", .int 2])) m (.lst (xs.take i ++ [.ref p] ++ xs.drop i ++ [.ref p2]))) := fun b o e => by
      have e14 := u2 _ _ e
      rw [upd_ne (ne_of_none e hm), upd_ne (ne_of_none e14 hp2)]
      exact e14
    have hrs15 : RowsL K (upd (upd H14 p2 (.tup [.str "even", .int 2])) m (.lst (xs.take i ++ [.ref p] ++ xs.drop i ++ [.ref p2]))) (xs.take i ++ [.ref p] ++ xs.drop i ++ [.ref p2]) (bentRows rs i) :=
      rowsL_app (rowsL_ins i (rowsL_same (s112.trans u3) hrs1) ⟨p, rfl, SqT.of (by rw [upd_ne pm, upd_ne pp2]; exact hp14)⟩) (.cons ⟨p2, rfl, SqT.of (by rw [upd_ne p2m]; exact upd_same)⟩ .nil)
    refine q15 _ _ sc m _ rs i _ _ _ _ _ _ _ _ _ _ _ upd_same hrs15 (bent_G i hG h13) (by omega) nE fun H16 x2 s16 hdr16 => ?_
    obtain ⟨fe, _⟩ := bent_first (rs := rs) (i := i) (by omega) nE
    have sH : Same H H16 := ((s1.trans s112).trans u3).trans s16
    refine q16 _ H16 sc x2 _ i _ _ _ _ _ _ _ _ _ _ _ (hT.ext sH) hdr16 fe fun H17 r r1 e17 T17 hr17 g1 => ?_
    have hdr17 := draft_ext e17 hdr16
    refine q17 _ H17 sc x2 r r1 _ i _ _ _ _ _ _ _ _ _ _ T17 hdr17 fe hr17 fun H18 r2 e18 T18 g2 hr18 => ?_
    have hdr18 := draft_put (ys := [V.ref r1, V.ref r2]) (draft_ext e18 hdr17) hr18
    have T18' := tabs_put (ys := [V.ref r1, V.ref r2]) T18 hr18
    have g1' := e18 _ _ g1 (by intro x z; cases z)
    have n1 : r1 ≠ r := fun z => by rw [z, hr18] at g1'; cases g1'
    have n2 : r2 ≠ r := fun z => by rw [z, hr18] at g2; cases g2
    have g1a : upd H18 r (.lst [V.ref r1, V.ref r2]) r1 = some (.tup [.str "even", .int (i : Int)]) := by rw [upd_ne n1]; exact g1'
    have g2a : upd H18 r (.lst [V.ref r1, V.ref r2]) r2 = some (.tup [.str "even", .int (i : Int)]) := by rw [upd_ne n2]; exact g2
    refine q18 _ _ sc x2 r r1 r2 _ i _ _ _ _ _ _ _ _ _ _ T18' hdr18 fe upd_same fun H19 r3 e19 T19 g3 hr19 => ?_
    have g1b := e19 _ _ g1a (by intro x z; cases z)
    have g2b := e19 _ _ g2a (by intro x z; cases z)
    have n3 : r3 ≠ r := fun z => by rw [z, hr19] at g3; cases g3
    exact q19 _ _ _ sc r r1 r2 r3 i _ _ _ _ _ _ _ _ _ _ upd_same (by rw [upd_ne n1]; exact g1b) (by rw [upd_ne n2]; exact g2b) (by rw [upd_ne n3]; exact g3) q

/-! ### the head: what the top leaves -/
def dd (x : Str) (i : Nat) : He.DefD := ⟨(x, none), x, x, defArgs (topS i), defBody (topS i), defScope (topS i), [], []⟩
def fns : List He.DefD := [dd "is_integer" 10, dd "is_row" 11, dd "is_row_of" 12, dd "is_name" 13, dd "read_sum" 19, dd "read_words" 24, dd "read_branch" 25, dd "read_row" 26, dd "read_rows" 27, dd "length_of" 28, dd "measured" 29, dd "labels_in" 30, dd "is_too_long" 31, dd "way_in" 34, dd "too_long_ones" 35, dd "is_ascending" 36, dd "_law_row" 39, dd "_law_cell" 40, dd "_law_same" 41, dd "_law_draft" 42, dd "_law_branches" 43, dd "_law_spots" 44, dd "_law_outs" 45, dd "_law_begins" 46, dd "_law_ways" 47, dd "_law_long" 48, dd "_law_grown" 49, dd "_law_met" 50, dd "_law_is_integer" 51, dd "_law_are_reasons" 52, dd "_law_bent" 53, dd "law" 54, ⟨("HasEven", some "__init__"), "__init__", "HasEven.__init__", defArgs sIniE, defBody sIniE, defScope sIniE, [], []⟩, ⟨("Draft", some "__init__"), "__init__", "Draft.__init__", defArgs sInit, defBody sInit, defScope sInit, [], []⟩, ⟨("Draft", some "check_even"), "check_even", "Draft.check_even", defArgs sCheckEven, defBody sCheckEven, defScope sCheckEven, [], []⟩, ⟨("Draft", some "reasons"), "reasons", "Draft.reasons", defArgs sReasons, defBody sReasons, defScope sReasons, [], []⟩, ⟨("Draft", some "is_reason"), "is_reason", "Draft.is_reason", defArgs sIsReason, defBody sIsReason, defScope sIsReason, [], []⟩, ⟨("Draft", some "are_reasons"), "are_reasons", "Draft.are_reasons", defArgs sAreReasons, defBody sAreReasons, defScope sAreReasons, [], []⟩, ⟨("Draft", some "room"), "room", "Draft.room", defArgs sRoom, defBody sRoom, defScope sRoom, [], []⟩]
def fas : List He.Fa := [.glo "is_integer", .glo "is_row", .glo "is_row_of", .glo "is_name", .glo "read_sum", .glo "read_words", .glo "read_branch", .glo "read_row", .glo "read_rows", .glo "length_of", .glo "measured", .glo "labels_in", .glo "is_too_long", .glo "way_in", .glo "too_long_ones", .glo "is_ascending", .glo "_law_row", .glo "_law_cell", .glo "_law_same", .glo "_law_draft", .glo "_law_branches", .glo "_law_spots", .glo "_law_outs", .glo "_law_begins", .glo "_law_ways", .glo "_law_long", .glo "_law_grown", .glo "_law_met", .glo "_law_is_integer", .glo "_law_are_reasons", .glo "_law_bent", .glo "law", .glo "HasEven", .glo "Draft", .glo "NEAR_CODES", .free "len", .free "int", .free "str", .free "bool", .free "list", .free "tuple", .free "isinstance", .free "all", .free "sorted", .free "range", .free "enumerate", .free "zip", .free "dict", .free "min", .free "set", .str "LETTERS" lettersS, .int "LOWEST" (-256), .int "HIGHEST" 255, .exm "HasEven" "HasEven" true, .noat "HasEven" "index", .meth "HasEven" "__init__", .meth "Draft" "__init__", .meth "Draft" "check_even", .meth "Draft" "reasons", .meth "Draft" "is_reason", .meth "Draft" "are_reasons", .meth "Draft" "room", .noat "Draft" "parts", .noat "Draft" "forks", .noat "Draft" "aims", .noat "Draft" "outs", .cls "Draft", .mkr "Draft"]
def tabs : List He.Tab := [(fun K => He.ga K "NEAR_CODES", ["ask", "go", "call"])]
def tfs : List He.Defn := [("law", none)]
/-- an own error class over ValueError -/
def oexB (K : PySem.W.Frag) (C : Addr) : Bool := (match K.lookup C with
  | some ⟨.type c, _, .cls z, sl⟩ => decide (c = "type") && (match z.mro, sl.toList with
    | .ref C1 :: m1, [_, _, _, _, some (.builtin b1), _] => decide (C1 = C) && (decide (b1 = "ValueError.__new__") && (!z.hasDel && (z.hasDict && PySem.HandSPX.refsVE m1)))
    | _, _ => false)
  | _ => false) && (He.eqO (PySem.W.findIn K (.ref C) "__setattr__") (some (some (.builtin "object.__setattr__"))) && (decide (PySem.W.subIn K (.ref C) (.type "BaseException") = some true) && (decide (PySem.W.typeIn K (.ref C) = some (.type "type")) && PySem.W.keepIn K (.ref C))))
def nearV : List (Str × He.Dv) := [("ask", .int 3), ("go", .int 5), ("call", .int 14)]
def exs (K : PySem.W.Frag) : Bool := oexB K (He.ga K "HasEven") && (xfB K (He.ga K "HasEven") && He.valsB K (He.ga K "NEAR_CODES") nearV)
abbrev RR : PySem.W.OpenRow := PySem.W.OpenLaw.row PySem.Challenge.rw_loadanywhere_k56_reasons
abbrev hkk : PySem.W.Hook := He.hookX 5 fas fns tabs tfs exs
def obb (s : PySem.W.SharedT) : He.AlX := He.obsX 5 fas fns tabs tfs exs (HandSHeadRun.getT s)
theorem obb_eq (s : PySem.W.SharedT) : obb s = hkk.obs s.abs := He.obsX_eq (HandSHeadRun.getT_eq s)
abbrev loosL : List Str := (["_wall", "WordError", "BadDraft", "BadChoice", "NoBranch", "HasEven", "BadAt", "LETTERS", "is_integer", "is_row", "is_row_of", "is_name", "RANKS", "read_unknown", "order_of", "one_form", "read_sum", "NEAR_CODES", "LOWEST", "HIGHEST", "read_words", "read_branch", "read_row", "read_rows", "length_of", "measured", "labels_in", "is_too_long", "grown_from", "way_in"] : List Str) ++ (["too_long_ones", "is_ascending", "Draft", "_law_row", "_law_cell", "_law_same", "_law_draft", "_law_branches", "_law_spots", "_law_outs", "_law_begins", "_law_ways", "_law_long", "_law_grown", "_law_met", "_law_is_integer", "_law_are_reasons", "_law_bent"] : List Str)
theorem run_false (w : World) : HandSHeadRun.RunEq RR (PySem.W.view RR.prog [54]) hkk obb 6000 loosL (w.withFollow "special-get-raises" false) := by
  intro os
  kernel_rfl
theorem run_true (w : World) : HandSHeadRun.RunEq RR (PySem.W.view RR.prog [54]) hkk obb 6000 loosL (w.withFollow "special-get-raises" true) := by
  intro os
  kernel_rfl
theorem runL (w : World) : HandSHeadRun.RunEq RR (PySem.W.view RR.prog [54]) hkk obb 6000 loosL w :=
  PySem.W.byRow2 "special-get-raises" (P := fun w => HandSHeadRun.RunEq RR (PySem.W.view RR.prog [54]) hkk obb 6000 loosL w) run_false run_true w

/-! ### the facts -/
theorem bb {a b : Bool} (h : (a && b) = true) : a = true ∧ b = true := by simpa using h
theorem oexB_ok {K : PySem.W.Frag} {C : Addr} (h : oexB K C = true) : OexC K C := by
  unfold oexB at h
  obtain ⟨h1, h⟩ := bb h
  obtain ⟨h2, h⟩ := bb h
  obtain ⟨h3, h⟩ := bb h
  obtain ⟨h4, h5⟩ := bb h
  refine ⟨?_, He.eqO_ok h2, of_decide_eq_true h3, of_decide_eq_true h4, h5⟩
  split at h1
  · rename_i cn od z sl hl
    obtain ⟨h6, h7⟩ := bb h1
    obtain rfl := of_decide_eq_true h6
    split at h7
    · rename_i C1 m1 k0 k1 k2 k3 b1 k5 hm hs
      obtain ⟨h8, h7⟩ := bb h7
      obtain ⟨h9, h7⟩ := bb h7
      obtain ⟨ha, h7⟩ := bb h7
      obtain ⟨hb, hc⟩ := bb h7
      obtain rfl := of_decide_eq_true h8
      obtain rfl := of_decide_eq_true h9
      obtain ⟨z1, z2, z3, z4, z5, z6, z7, z8, z9, za, zb⟩ := z
      dsimp only at hm ha hb
      subst hm
      have ha2 : zb = false := by simpa using ha
      subst ha2
      subst hb
      have hsl : sl = #[k0, k1, k2, k3, some (.builtin "ValueError.__new__"), k5] := by
        obtain ⟨l⟩ := sl
        simp only at hs
        rw [hs]
      rw [hsl] at hl
      exact ⟨_, _, _, _, _, _, _, _, _, _, _, _, _, _, _, hl, hc⟩
    · cases h7
  · cases h1
theorem fun_of {K : PySem.W.Frag} {x q : Str} {st : Stmt} {f : Addr} {fd : FuncData} (F : FunD K x q (defArgs st) (defBody st) (defScope st) [] [] f fd) : Fun K x q st f fd := by
  obtain ⟨oc, od, dV, kV, doc, pm, an, cdv, ct, osl, e, lk, hc, hD, hK⟩ := F.ex
  rcases hD with ⟨_, rfl⟩ | ⟨z, _⟩
  · exact ⟨⟨oc, od, kV, doc, pm, an, cdv, ct, osl, e, lk, hc⟩, F.kp⟩
  · exact absurd rfl z
theorem funC_of {K : PySem.W.Frag} {x : Str} {st : Stmt} {p : Str × Option Str} {fd : FuncData} (F : FunD K x x (defArgs st) (defBody st) (defScope st) [] [] (He.fAd K p) fd) : FunC K x st (He.cT K p).1 (He.fAd K p) fd := by
  obtain ⟨oc, od, dV, kV, doc, pm, an, cdv, ct, osl, e, lk, hc, hD, hK⟩ := F.ex
  rcases hD with ⟨_, rfl⟩ | ⟨z, _⟩
  · obtain ⟨c, rfl⟩ := He.codeIn_ref hc
    have ec : (He.cT K p).1 = c := He.codeOf_eq lk (by rw [e])
    rw [ec]
    exact ⟨⟨oc, od, kV, doc, pm, an, ct, osl, e, lk, hc⟩, F.kp⟩
  · exact absurd rfl z
theorem has_of {P : Program} {w : World} {K : PySem.W.Frag} {mg : Str → Option Value} {base : Heap} {CX : CXT} {k : Nat} {x : Str} {ps : List Str} {sp : Sp} {f : Addr} {fd : FuncData} (g : mg x = some (.ref f)) (kp : PySem.W.keepIn K (.ref f) = true) (b : Binds K fd ps []) (o : FnOk P w K mg base CX k f fd ps sp) : Has P w K mg base CX k x ps sp :=
  ⟨⟨f, fd, g, kp, b, o⟩⟩
section
variable {w : World} {K : PySem.W.Frag} {mg : Str → Option Value} {h : Heap}
theorem near_of (X : K.In h) (G : h.Ns mainGlobals mg) (c : He.SaysX fas fns tabs tfs exs w h K) (v : He.valsB K (He.ga K "NEAR_CODES") nearV = true) : Near K w mg (He.ga K "NEAR_CODES") := by
  have e : tabs.map (fun t => He.dicW K (t.1 K)) = tabs.map fun t => some (He.keysIn w.params t.2) := congrArg (fun z : He.AlT => z.2) c.t
  have e2 : He.dicW K (He.ga K "NEAR_CODES") = some (He.keysIn w.params ["ask", "go", "call"]) := by
    have z : [He.dicW K (He.ga K "NEAR_CODES")] = [some (He.keysIn w.params ["ask", "go", "call"])] := e
    injection z
  refine ⟨He.glo_ok X G (c.t.d.fact 34 (f := .glo "NEAR_CODES") rfl), He.dicW_ok e2, fun z hz => ?_⟩
  have hz' : z = "ask" ∨ z = "go" ∨ z = "call" := by
    rcases List.mem_cons.mp hz with h | h
    · exact .inl h
    · rcases List.mem_cons.mp h with h | h
      · exact .inr (.inl h)
      · exact .inr (.inr (List.mem_singleton.mp h))
  rcases hz' with rfl | rfl | rfl
  · obtain ⟨u, h1, _⟩ := He.valsB_ok v (q := ("ask", .int 3)) (by unfold nearV; exact List.mem_cons_self ..)
    exact ⟨u, h1⟩
  · obtain ⟨u, h1, _⟩ := He.valsB_ok v (q := ("go", .int 5)) (by unfold nearV; exact List.mem_cons_of_mem _ (List.mem_cons_self ..))
    exact ⟨u, h1⟩
  · obtain ⟨u, h1, _⟩ := He.valsB_ok v (q := ("call", .int 14)) (by unfold nearV; exact List.mem_cons_of_mem _ (List.mem_cons_of_mem _ (List.mem_cons_self ..)))
    exact ⟨u, h1⟩
theorem bi_of (X : K.In h) (G : h.Ns mainGlobals mg) (c : He.SaysD fas fns K) : Bi mg :=
  ⟨He.free_ok X G (c.fact 35 (f := .free "len") rfl), He.free_ok X G (c.fact 36 (f := .free "int") rfl), He.free_ok X G (c.fact 37 (f := .free "str") rfl), He.free_ok X G (c.fact 38 (f := .free "bool") rfl), He.free_ok X G (c.fact 39 (f := .free "list") rfl), He.free_ok X G (c.fact 40 (f := .free "tuple") rfl), He.free_ok X G (c.fact 41 (f := .free "isinstance") rfl), He.free_ok X G (c.fact 42 (f := .free "all") rfl), He.free_ok X G (c.fact 43 (f := .free "sorted") rfl), He.free_ok X G (c.fact 44 (f := .free "range") rfl), He.free_ok X G (c.fact 45 (f := .free "enumerate") rfl), He.free_ok X G (c.fact 46 (f := .free "zip") rfl), He.free_ok X G (c.fact 47 (f := .free "dict") rfl), He.free_ok X G (c.fact 48 (f := .free "min") rfl), He.free_ok X G (c.fact 49 (f := .free "set") rfl)⟩
end
abbrev cL (K : PySem.W.Frag) : Addr × Addr := He.cT K ("law", none)
abbrev TT (K : PySem.W.Frag) : List (Addr × Str) := [((cL K).2, qLaw)]
theorem facts {P : Program} {w : World} {K : PySem.W.Frag} {mg : Str → Option Value} {h : Heap} (X : K.In h) (G : h.Ns mainGlobals mg) (c : He.SaysX fas fns tabs tfs exs w h K) :
    ∃ fd : FuncData, (∀ (s : Shared) (u : Value), BindsTo s fd ⟨[u], []⟩ [("script", u)]) ∧ ∀ base : Heap, K.In base → base.Ns mainGlobals mg → LamX.TabB base mg (cL K).1 (cL K).2 →
      FnOk P w K mg base (L2.CX P w) 11 (He.ga K "law") fd ["script"] (spLaw K (TT K)) := by
  obtain ⟨x1, hx⟩ := bb c.more
  obtain ⟨x2, x3⟩ := bb hx
  have T := bi_of X G c.t.d
  have N := near_of X G c x3
  obtain ⟨tLet, gLet⟩ := He.str_ok X G (c.t.d.fact 50 (f := .str "LETTERS" lettersS) rfl)
  obtain ⟨tLow, gLow⟩ := He.int_ok X G (c.t.d.fact 51 (f := .int "LOWEST" (-256)) rfl)
  obtain ⟨tHi, gHi⟩ := He.int_ok X G (c.t.d.fact 52 (f := .int "HIGHEST" 255) rfl)
  have gE : mg "HasEven" = some (.ref (He.ga K "HasEven")) := He.glo_ok X G (c.t.d.fact 32 (f := .glo "HasEven") rfl)
  have gD : mg "Draft" = some (.ref (He.ga K "Draft")) := He.glo_ok X G (c.t.d.fact 33 (f := .glo "Draft") rfl)
  have eE := He.exm_ok (c.t.d.fact 53 (f := .exm "HasEven" "HasEven" true) rfl)
  have nE := He.noat_ok (c.t.d.fact 54 (f := .noat "HasEven" "index") rfl)
  have mE := He.meth_ok (c.t.d.fact 55 (f := .meth "HasEven" "__init__") rfl)
  have OE := oexB_ok x1
  have XE := xfB_ok x2
  have CD := He.cls_ok (c.t.d.fact 66 (f := .cls "Draft") rfl)
  have KD := He.mkr_ok (c.t.d.fact 67 (f := .mkr "Draft") rfl)
  have B : DrC K (He.ga K "Draft") := ⟨CD, He.noat_ok (c.t.d.fact 62 (f := .noat "Draft" "parts") rfl), He.noat_ok (c.t.d.fact 63 (f := .noat "Draft" "forks") rfl), He.noat_ok (c.t.d.fact 64 (f := .noat "Draft" "aims") rfl), He.noat_ok (c.t.d.fact 65 (f := .noat "Draft" "outs") rfl)⟩
  obtain ⟨d0, D0⟩ := c.t.d.def_ 0 (d := dd "is_integer" 10) rfl
  have F0 : Fun K "is_integer" "is_integer" sIsInt (He.ga K "is_integer") d0 := fun_of D0
  have g0 : mg "is_integer" = some (.ref (He.ga K "is_integer")) := He.glo_ok X G (c.t.d.fact 0 (f := .glo "is_integer") rfl)
  have b0 : Binds K d0 ["thing"] [] := F0.binds fun _ _ _ _ _ _ us hl => match us, hl with | [_], _ => rfl
  obtain ⟨d1, D1⟩ := c.t.d.def_ 1 (d := dd "is_row" 11) rfl
  have F1 : Fun K "is_row" "is_row" sIsRow (He.ga K "is_row") d1 := fun_of D1
  have g1 : mg "is_row" = some (.ref (He.ga K "is_row")) := He.glo_ok X G (c.t.d.fact 1 (f := .glo "is_row") rfl)
  have b1 : Binds K d1 ["thing"] [] := F1.binds fun _ _ _ _ _ _ us hl => match us, hl with | [_], _ => rfl
  obtain ⟨d2, D2⟩ := c.t.d.def_ 2 (d := dd "is_row_of" 12) rfl
  have F2 : Fun K "is_row_of" "is_row_of" sIsRowOf (He.ga K "is_row_of") d2 := fun_of D2
  have g2 : mg "is_row_of" = some (.ref (He.ga K "is_row_of")) := He.glo_ok X G (c.t.d.fact 2 (f := .glo "is_row_of") rfl)
  have b2 : Binds K d2 ["thing", "many"] [] := F2.binds fun _ _ _ _ _ _ us hl => match us, hl with | [_, _], _ => rfl
  obtain ⟨d3, D3⟩ := c.t.d.def_ 3 (d := dd "is_name" 13) rfl
  have F3 : Fun K "is_name" "is_name" sIsName (He.ga K "is_name") d3 := fun_of D3
  have g3 : mg "is_name" = some (.ref (He.ga K "is_name")) := He.glo_ok X G (c.t.d.fact 3 (f := .glo "is_name") rfl)
  have b3 : Binds K d3 ["thing"] [] := F3.binds fun _ _ _ _ _ _ us hl => match us, hl with | [_], _ => rfl
  obtain ⟨d4, D4⟩ := c.t.d.def_ 4 (d := dd "read_sum" 19) rfl
  have F4 : Fun K "read_sum" "read_sum" sReadSum (He.ga K "read_sum") d4 := fun_of D4
  have g4 : mg "read_sum" = some (.ref (He.ga K "read_sum")) := He.glo_ok X G (c.t.d.fact 4 (f := .glo "read_sum") rfl)
  have b4 : Binds K d4 ["thing"] [] := F4.binds fun _ _ _ _ _ _ us hl => match us, hl with | [_], _ => rfl
  obtain ⟨d5, D5⟩ := c.t.d.def_ 5 (d := dd "read_words" 24) rfl
  have F5 : Fun K "read_words" "read_words" sReadWords (He.ga K "read_words") d5 := fun_of D5
  have g5 : mg "read_words" = some (.ref (He.ga K "read_words")) := He.glo_ok X G (c.t.d.fact 5 (f := .glo "read_words") rfl)
  have b5 : Binds K d5 ["thing"] [] := F5.binds fun _ _ _ _ _ _ us hl => match us, hl with | [_], _ => rfl
  obtain ⟨d6, D6⟩ := c.t.d.def_ 6 (d := dd "read_branch" 25) rfl
  have F6 : Fun K "read_branch" "read_branch" sReadBranch (He.ga K "read_branch") d6 := fun_of D6
  have g6 : mg "read_branch" = some (.ref (He.ga K "read_branch")) := He.glo_ok X G (c.t.d.fact 6 (f := .glo "read_branch") rfl)
  have b6 : Binds K d6 ["called", "n", "more"] [] := F6.binds fun _ _ _ _ _ _ us hl => match us, hl with | [_, _, _], _ => rfl
  obtain ⟨d7, D7⟩ := c.t.d.def_ 7 (d := dd "read_row" 26) rfl
  have F7 : Fun K "read_row" "read_row" sReadRow (He.ga K "read_row") d7 := fun_of D7
  have g7 : mg "read_row" = some (.ref (He.ga K "read_row")) := He.glo_ok X G (c.t.d.fact 7 (f := .glo "read_row") rfl)
  have b7 : Binds K d7 ["thing"] [] := F7.binds fun _ _ _ _ _ _ us hl => match us, hl with | [_], _ => rfl
  obtain ⟨d8, D8⟩ := c.t.d.def_ 8 (d := dd "read_rows" 27) rfl
  have F8 : Fun K "read_rows" "read_rows" sReadRows (He.ga K "read_rows") d8 := fun_of D8
  have g8 : mg "read_rows" = some (.ref (He.ga K "read_rows")) := He.glo_ok X G (c.t.d.fact 8 (f := .glo "read_rows") rfl)
  have b8 : Binds K d8 ["rows"] [] := F8.binds fun _ _ _ _ _ _ us hl => match us, hl with | [_], _ => rfl
  obtain ⟨d9, D9⟩ := c.t.d.def_ 9 (d := dd "length_of" 28) rfl
  have F9 : Fun K "length_of" "length_of" sLengthOf (He.ga K "length_of") d9 := fun_of D9
  have g9 : mg "length_of" = some (.ref (He.ga K "length_of")) := He.glo_ok X G (c.t.d.fact 9 (f := .glo "length_of") rfl)
  have b9 : Binds K d9 ["row", "begin", "is_far"] [] := F9.binds fun _ _ _ _ _ _ us hl => match us, hl with | [_, _, _], _ => rfl
  obtain ⟨d10, D10⟩ := c.t.d.def_ 10 (d := dd "measured" 29) rfl
  have F10 : Fun K "measured" "measured" sMeasured (He.ga K "measured") d10 := fun_of D10
  have g10 : mg "measured" = some (.ref (He.ga K "measured")) := He.glo_ok X G (c.t.d.fact 10 (f := .glo "measured") rfl)
  have b10 : Binds K d10 ["rows", "far"] [] := F10.binds fun _ _ _ _ _ _ us hl => match us, hl with | [_, _], _ => rfl
  obtain ⟨d11, D11⟩ := c.t.d.def_ 11 (d := dd "labels_in" 30) rfl
  have F11 : Fun K "labels_in" "labels_in" sLabelsIn (He.ga K "labels_in") d11 := fun_of D11
  have g11 : mg "labels_in" = some (.ref (He.ga K "labels_in")) := He.glo_ok X G (c.t.d.fact 11 (f := .glo "labels_in") rfl)
  have b11 : Binds K d11 ["rows"] [] := F11.binds fun _ _ _ _ _ _ us hl => match us, hl with | [_], _ => rfl
  obtain ⟨d12, D12⟩ := c.t.d.def_ 12 (d := dd "is_too_long" 31) rfl
  have F12 : Fun K "is_too_long" "is_too_long" sIsTooLong (He.ga K "is_too_long") d12 := fun_of D12
  have g12 : mg "is_too_long" = some (.ref (He.ga K "is_too_long")) := He.glo_ok X G (c.t.d.fact 12 (f := .glo "is_too_long") rfl)
  have b12 : Binds K d12 ["way"] [] := F12.binds fun _ _ _ _ _ _ us hl => match us, hl with | [_], _ => rfl
  obtain ⟨d13, D13⟩ := c.t.d.def_ 13 (d := dd "way_in" 34) rfl
  have F13 : Fun K "way_in" "way_in" sWayIn (He.ga K "way_in") d13 := fun_of D13
  have g13 : mg "way_in" = some (.ref (He.ga K "way_in")) := He.glo_ok X G (c.t.d.fact 13 (f := .glo "way_in") rfl)
  have b13 : Binds K d13 ["aims", "offsets", "index"] [] := F13.binds fun _ _ _ _ _ _ us hl => match us, hl with | [_, _, _], _ => rfl
  obtain ⟨d14, D14⟩ := c.t.d.def_ 14 (d := dd "too_long_ones" 35) rfl
  have F14 : Fun K "too_long_ones" "too_long_ones" sTooLong (He.ga K "too_long_ones") d14 := fun_of D14
  have g14 : mg "too_long_ones" = some (.ref (He.ga K "too_long_ones")) := He.glo_ok X G (c.t.d.fact 14 (f := .glo "too_long_ones") rfl)
  have b14 : Binds K d14 ["parts", "aims", "far"] [] := F14.binds fun _ _ _ _ _ _ us hl => match us, hl with | [_, _, _], _ => rfl
  obtain ⟨d15, D15⟩ := c.t.d.def_ 15 (d := dd "is_ascending" 36) rfl
  have F15 : Fun K "is_ascending" "is_ascending" sAsc (He.ga K "is_ascending") d15 := fun_of D15
  have g15 : mg "is_ascending" = some (.ref (He.ga K "is_ascending")) := He.glo_ok X G (c.t.d.fact 15 (f := .glo "is_ascending") rfl)
  have b15 : Binds K d15 ["row"] [] := F15.binds fun _ _ _ _ _ _ us hl => match us, hl with | [_], _ => rfl
  obtain ⟨d16, D16⟩ := c.t.d.def_ 16 (d := dd "_law_row" 39) rfl
  have F16 : Fun K "_law_row" "_law_row" sLRow (He.ga K "_law_row") d16 := fun_of D16
  have g16 : mg "_law_row" = some (.ref (He.ga K "_law_row")) := He.glo_ok X G (c.t.d.fact 16 (f := .glo "_law_row") rfl)
  have b16 : Binds K d16 ["cell", "sizes"] [] := F16.binds fun _ _ _ _ _ _ us hl => match us, hl with | [_, _], _ => rfl
  obtain ⟨d17, D17⟩ := c.t.d.def_ 17 (d := dd "_law_cell" 40) rfl
  have F17 : Fun K "_law_cell" "_law_cell" sLCell (He.ga K "_law_cell") d17 := fun_of D17
  have g17 : mg "_law_cell" = some (.ref (He.ga K "_law_cell")) := He.glo_ok X G (c.t.d.fact 17 (f := .glo "_law_cell") rfl)
  have b17 : Binds K d17 ["script", "k"] [] := F17.binds fun _ _ _ _ _ _ us hl => match us, hl with | [_, _], _ => rfl
  obtain ⟨d18, D18⟩ := c.t.d.def_ 18 (d := dd "_law_same" 41) rfl
  have F18 : Fun K "_law_same" "_law_same" sSame (He.ga K "_law_same") d18 := fun_of D18
  have g18 : mg "_law_same" = some (.ref (He.ga K "_law_same")) := He.glo_ok X G (c.t.d.fact 18 (f := .glo "_law_same") rfl)
  have b18 : Binds K d18 ["found", "due"] [] := F18.binds fun _ _ _ _ _ _ us hl => match us, hl with | [_, _], _ => rfl
  obtain ⟨d19, D19⟩ := c.t.d.def_ 19 (d := dd "_law_draft" 42) rfl
  have F19 : Fun K "_law_draft" "_law_draft" sLDraft (He.ga K "_law_draft") d19 := fun_of D19
  have g19 : mg "_law_draft" = some (.ref (He.ga K "_law_draft")) := He.glo_ok X G (c.t.d.fact 19 (f := .glo "_law_draft") rfl)
  have b19 : Binds K d19 ["cell", "most", "is_even"] [] := F19.binds fun _ _ _ _ _ _ us hl => match us, hl with | [_, _, _], _ => rfl
  obtain ⟨d20, D20⟩ := c.t.d.def_ 20 (d := dd "_law_branches" 43) rfl
  have F20 : Fun K "_law_branches" "_law_branches" sLBr (He.ga K "_law_branches") d20 := fun_of D20
  have g20 : mg "_law_branches" = some (.ref (He.ga K "_law_branches")) := He.glo_ok X G (c.t.d.fact 20 (f := .glo "_law_branches") rfl)
  have b20 : Binds K d20 ["rows"] [] := F20.binds fun _ _ _ _ _ _ us hl => match us, hl with | [_], _ => rfl
  obtain ⟨d21, D21⟩ := c.t.d.def_ 21 (d := dd "_law_spots" 44) rfl
  have F21 : Fun K "_law_spots" "_law_spots" sLSp (He.ga K "_law_spots") d21 := fun_of D21
  have g21 : mg "_law_spots" = some (.ref (He.ga K "_law_spots")) := He.glo_ok X G (c.t.d.fact 21 (f := .glo "_law_spots") rfl)
  have b21 : Binds K d21 ["rows"] [] := F21.binds fun _ _ _ _ _ _ us hl => match us, hl with | [_], _ => rfl
  obtain ⟨d22, D22⟩ := c.t.d.def_ 22 (d := dd "_law_outs" 45) rfl
  have F22 : Fun K "_law_outs" "_law_outs" sLOu (He.ga K "_law_outs") d22 := fun_of D22
  have g22 : mg "_law_outs" = some (.ref (He.ga K "_law_outs")) := He.glo_ok X G (c.t.d.fact 22 (f := .glo "_law_outs") rfl)
  have b22 : Binds K d22 ["rows"] [] := F22.binds fun _ _ _ _ _ _ us hl => match us, hl with | [_], _ => rfl
  obtain ⟨d23, D23⟩ := c.t.d.def_ 23 (d := dd "_law_begins" 46) rfl
  have F23 : Fun K "_law_begins" "_law_begins" sLBe (He.ga K "_law_begins") d23 := fun_of D23
  have g23 : mg "_law_begins" = some (.ref (He.ga K "_law_begins")) := He.glo_ok X G (c.t.d.fact 23 (f := .glo "_law_begins") rfl)
  have b23 : Binds K d23 ["rows", "far"] [] := F23.binds fun _ _ _ _ _ _ us hl => match us, hl with | [_, _], _ => rfl
  obtain ⟨d24, D24⟩ := c.t.d.def_ 24 (d := dd "_law_ways" 47) rfl
  have F24 : Fun K "_law_ways" "_law_ways" sLWa (He.ga K "_law_ways") d24 := fun_of D24
  have g24 : mg "_law_ways" = some (.ref (He.ga K "_law_ways")) := He.glo_ok X G (c.t.d.fact 24 (f := .glo "_law_ways") rfl)
  have b24 : Binds K d24 ["rows", "far"] [] := F24.binds fun _ _ _ _ _ _ us hl => match us, hl with | [_, _], _ => rfl
  obtain ⟨d25, D25⟩ := c.t.d.def_ 25 (d := dd "_law_long" 48) rfl
  have F25 : Fun K "_law_long" "_law_long" sLLo (He.ga K "_law_long") d25 := fun_of D25
  have g25 : mg "_law_long" = some (.ref (He.ga K "_law_long")) := He.glo_ok X G (c.t.d.fact 25 (f := .glo "_law_long") rfl)
  have b25 : Binds K d25 ["rows", "far"] [] := F25.binds fun _ _ _ _ _ _ us hl => match us, hl with | [_, _], _ => rfl
  obtain ⟨d26, D26⟩ := c.t.d.def_ 26 (d := dd "_law_grown" 49) rfl
  have F26 : Fun K "_law_grown" "_law_grown" sLGr (He.ga K "_law_grown") d26 := fun_of D26
  have g26 : mg "_law_grown" = some (.ref (He.ga K "_law_grown")) := He.glo_ok X G (c.t.d.fact 26 (f := .glo "_law_grown") rfl)
  have b26 : Binds K d26 ["rows"] [] := F26.binds fun _ _ _ _ _ _ us hl => match us, hl with | [_], _ => rfl
  obtain ⟨d27, D27⟩ := c.t.d.def_ 27 (d := dd "_law_met" 50) rfl
  have F27 : Fun K "_law_met" "_law_met" sMet (He.ga K "_law_met") d27 := fun_of D27
  have g27 : mg "_law_met" = some (.ref (He.ga K "_law_met")) := He.glo_ok X G (c.t.d.fact 27 (f := .glo "_law_met") rfl)
  have b27 : Binds K d27 ["ask"] [] := F27.binds fun _ _ _ _ _ _ us hl => match us, hl with | [_], _ => rfl
  obtain ⟨d28, D28⟩ := c.t.d.def_ 28 (d := dd "_law_is_integer" 51) rfl
  have F28 : Fun K "_law_is_integer" "_law_is_integer" sLInt (He.ga K "_law_is_integer") d28 := fun_of D28
  have g28 : mg "_law_is_integer" = some (.ref (He.ga K "_law_is_integer")) := He.glo_ok X G (c.t.d.fact 28 (f := .glo "_law_is_integer") rfl)
  have b28 : Binds K d28 ["thing"] [] := F28.binds fun _ _ _ _ _ _ us hl => match us, hl with | [_], _ => rfl
  obtain ⟨d29, D29⟩ := c.t.d.def_ 29 (d := dd "_law_are_reasons" 52) rfl
  have F29 : Fun K "_law_are_reasons" "_law_are_reasons" sLAre (He.ga K "_law_are_reasons") d29 := fun_of D29
  have g29 : mg "_law_are_reasons" = some (.ref (He.ga K "_law_are_reasons")) := He.glo_ok X G (c.t.d.fact 29 (f := .glo "_law_are_reasons") rfl)
  have b29 : Binds K d29 ["rows", "thing"] [] := F29.binds fun _ _ _ _ _ _ us hl => match us, hl with | [_, _], _ => rfl
  obtain ⟨d30, D30⟩ := c.t.d.def_ 30 (d := dd "_law_bent" 53) rfl
  have F30 : Fun K "_law_bent" "_law_bent" sBent (He.ga K "_law_bent") d30 := fun_of D30
  have g30 : mg "_law_bent" = some (.ref (He.ga K "_law_bent")) := He.glo_ok X G (c.t.d.fact 30 (f := .glo "_law_bent") rfl)
  have b30 : Binds K d30 ["told", "draws"] [] := F30.binds fun _ _ _ _ _ _ us hl => match us, hl with | [_, _], _ => rfl
  obtain ⟨d31, D31⟩ := c.t.d.def_ 31 (d := dd "law" 54) rfl
  have F31 : Fun K "law" "law" sLaw (He.ga K "law") d31 := fun_of D31
  have g31 : mg "law" = some (.ref (He.ga K "law")) := He.glo_ok X G (c.t.d.fact 31 (f := .glo "law") rfl)
  have b31 : Binds K d31 ["script"] [] := F31.binds fun _ _ _ _ _ _ us hl => match us, hl with | [_], _ => rfl
  obtain ⟨dE, DE⟩ := c.t.d.def_ 32 (d := ⟨("HasEven", some "__init__"), "__init__", "HasEven.__init__", defArgs sIniE, defBody sIniE, defScope sIniE, [], []⟩) rfl
  have FE : Fun K "__init__" "HasEven.__init__" sIniE (He.ma K (He.ga K "HasEven") "__init__") dE := fun_of DE
  have bE : Binds K dE ["self", "index"] [] := FE.binds fun _ _ _ _ _ _ us hl => match us, hl with | [_, _], _ => rfl
  obtain ⟨e0, E0⟩ := c.t.d.def_ 33 (d := ⟨("Draft", some "__init__"), "__init__", "Draft.__init__", defArgs sInit, defBody sInit, defScope sInit, [], []⟩) rfl
  have M0 : Fun K "__init__" "Draft.__init__" sInit (He.ma K (He.ga K "Draft") "__init__") e0 := fun_of E0
  have q0 : Binds K e0 ["self", "rows"] [] := M0.binds fun _ _ _ _ _ _ us hl => match us, hl with | [_, _], _ => rfl
  have a0 := He.meth_ok (c.t.d.fact 56 (f := .meth "Draft" "__init__") rfl)
  obtain ⟨e1, E1⟩ := c.t.d.def_ 34 (d := ⟨("Draft", some "check_even"), "check_even", "Draft.check_even", defArgs sCheckEven, defBody sCheckEven, defScope sCheckEven, [], []⟩) rfl
  have M1 : Fun K "check_even" "Draft.check_even" sCheckEven (He.ma K (He.ga K "Draft") "check_even") e1 := fun_of E1
  have q1 : Binds K e1 ["self"] [] := M1.binds fun _ _ _ _ _ _ us hl => match us, hl with | [_], _ => rfl
  have a1 := He.meth_ok (c.t.d.fact 57 (f := .meth "Draft" "check_even") rfl)
  obtain ⟨e2, E2⟩ := c.t.d.def_ 35 (d := ⟨("Draft", some "reasons"), "reasons", "Draft.reasons", defArgs sReasons, defBody sReasons, defScope sReasons, [], []⟩) rfl
  have M2 : Fun K "reasons" "Draft.reasons" sReasons (He.ma K (He.ga K "Draft") "reasons") e2 := fun_of E2
  have q2 : Binds K e2 ["self"] [] := M2.binds fun _ _ _ _ _ _ us hl => match us, hl with | [_], _ => rfl
  have a2 := He.meth_ok (c.t.d.fact 58 (f := .meth "Draft" "reasons") rfl)
  obtain ⟨e3, E3⟩ := c.t.d.def_ 36 (d := ⟨("Draft", some "is_reason"), "is_reason", "Draft.is_reason", defArgs sIsReason, defBody sIsReason, defScope sIsReason, [], []⟩) rfl
  have M3 : Fun K "is_reason" "Draft.is_reason" sIsReason (He.ma K (He.ga K "Draft") "is_reason") e3 := fun_of E3
  have q3 : Binds K e3 ["self", "thing", "earlier"] [] := M3.binds fun _ _ _ _ _ _ us hl => match us, hl with | [_, _, _], _ => rfl
  have a3 := He.meth_ok (c.t.d.fact 59 (f := .meth "Draft" "is_reason") rfl)
  obtain ⟨e4, E4⟩ := c.t.d.def_ 37 (d := ⟨("Draft", some "are_reasons"), "are_reasons", "Draft.are_reasons", defArgs sAreReasons, defBody sAreReasons, defScope sAreReasons, [], []⟩) rfl
  have M4 : Fun K "are_reasons" "Draft.are_reasons" sAreReasons (He.ma K (He.ga K "Draft") "are_reasons") e4 := fun_of E4
  have q4 : Binds K e4 ["self", "thing"] [] := M4.binds fun _ _ _ _ _ _ us hl => match us, hl with | [_, _], _ => rfl
  have a4 := He.meth_ok (c.t.d.fact 60 (f := .meth "Draft" "are_reasons") rfl)
  obtain ⟨e5, E5⟩ := c.t.d.def_ 38 (d := ⟨("Draft", some "room"), "room", "Draft.room", defArgs sRoom, defBody sRoom, defScope sRoom, [], []⟩) rfl
  have M5 : Fun K "room" "Draft.room" sRoom (He.ma K (He.ga K "Draft") "room") e5 := fun_of E5
  have q5 : Binds K e5 ["self", "at"] [] := M5.binds fun _ _ _ _ _ _ us hl => match us, hl with | [_, _], _ => rfl
  have a5 := He.meth_ok (c.t.d.fact 61 (f := .meth "Draft" "room") rfl)
  have CF : FunC K "law" sLaw (cL K).1 (He.ga K "law") d31 := funC_of (p := ("law", none)) D31
  refine ⟨d31, fun s u => ?_, fun base Xb Gb TL1 => ?_⟩
  · exact FunD.bindsA (ps := ["script"]) D31 (fun _ _ _ _ _ _ us hl => match us, hl with | [_], _ => rfl) s [u] rfl
  have EE : Err P w K mg base "HasEven" (He.ga K "HasEven") "index" := ⟨gE, OE, nE, XE, eE, ⟨_, dE, "index", mE.at_, eq_of_beq mE.fn, bE, ok_iniE FE OE nE⟩⟩
  have H0 := has_of (base := base) (P := P) (w := w) g0 D0.kp b0 (ok_isInt F0 T)
  have H1 := has_of (base := base) (P := P) (w := w) g1 D1.kp b1 (ok_isRow F1 T)
  have H2 := has_of (base := base) (P := P) (w := w) g2 D2.kp b2 (ok_isRowOf F2 T (H1.mono (by decide)))
  have H3 := has_of (base := base) (P := P) (w := w) g3 D3.kp b3 (ok_isName F3 T gLet)
  have H4 := has_of (base := base) (P := P) (w := w) g4 D4.kp b4 (ok_readSumI F4 (H0.mono (by decide)))
  have H5 := has_of (base := base) (P := P) (w := w) g5 D5.kp b5 (ok_readWords F5 T (H1.mono (by decide)) (H4.mono (by decide)))
  have H6 := has_of (base := base) (P := P) (w := w) g6 D6.kp b6 (ok_readBranch F6 T N (H3.mono (by decide)) (H0.mono (by decide)))
  have H7 := has_of (base := base) (P := P) (w := w) g7 D7.kp b7 (ok_readRow F7 T (H1.mono (by decide)) (H3.mono (by decide)) (H0.mono (by decide)) (H6.mono (by decide)) (H5.mono (by decide)))
  have HR := has_of (base := base) (P := P) (w := w) g1 D1.kp b1 (ok_isRowR F1 T)
  have H8 := has_of (base := base) (P := P) (w := w) g8 D8.kp b8 (ok_readRows F8 T (HR.mono (by decide)) (H7.mono (by decide)))
  have H9 := has_of (base := base) (P := P) (w := w) g9 D9.kp b9 (ok_lengthOf F9 T)
  have H10 := has_of (base := base) (P := P) (w := w) g10 D10.kp b10 (ok_measured F10 T (H9.mono (by decide)))
  have H11 := has_of (base := base) (P := P) (w := w) g11 D11.kp b11 (ok_labelsIn F11 T)
  have H12 := has_of (base := base) (P := P) (w := w) g12 D12.kp b12 (ok_isTooLong F12 gLow gHi)
  have H13 := has_of (base := base) (P := P) (w := w) g13 D13.kp b13 (ok_wayIn F13)
  have H14 := has_of (base := base) (P := P) (w := w) g14 D14.kp b14 (ok_tooLong F14 (H10.mono (by decide)) (H12.mono (by decide)) (H13.mono (by decide)))
  have H15 := has_of (base := base) (P := P) (w := w) g15 D15.kp b15 (ok_asc F15 T)
  have H16 := has_of (base := base) (P := P) (w := w) g16 D16.kp b16 (ok_lrow F16 T)
  have H17 := has_of (base := base) (P := P) (w := w) g17 D17.kp b17 (ok_lcell F17 T)
  have H19 := has_of (base := base) (P := P) (w := w) g19 D19.kp b19 (ok_ldraft F19 T (H16.mono (by decide)))
  have H20 := has_of (base := base) (P := P) (w := w) g20 D20.kp b20 (ok_lbr F20 T)
  have H21 := has_of (base := base) (P := P) (w := w) g21 D21.kp b21 (ok_lsp F21 T)
  have H22 := has_of (base := base) (P := P) (w := w) g22 D22.kp b22 (ok_lou F22 T (H21.mono (by decide)) (H20.mono (by decide)))
  have H23 := has_of (base := base) (P := P) (w := w) g23 D23.kp b23 (ok_lbe F23 T)
  have H24 := has_of (base := base) (P := P) (w := w) g24 D24.kp b24 (ok_lwa F24 T (H23.mono (by decide)) (H21.mono (by decide)) (H20.mono (by decide)))
  have H25 := has_of (base := base) (P := P) (w := w) g25 D25.kp b25 (ok_llo F25 T (H24.mono (by decide)))
  have H26 := has_of (base := base) (P := P) (w := w) g26 D26.kp b26 (ok_lgr F26 T (H22.mono (by decide)) (H25.mono (by decide)))
  have H28 := has_of (base := base) (P := P) (w := w) g28 D28.kp b28 (ok_lint F28 T)
  have H29 := has_of (base := base) (P := P) (w := w) g29 D29.kp b29 (ok_lare F29 T (H22.mono (by decide)) (H20.mono (by decide)) (H25.mono (by decide)) (H28.mono (by decide)))
  have H30 := has_of (base := base) (P := P) (w := w) g30 D30.kp b30 (ok_bent F30 T)
  have S0 := has_of (base := base) (P := P) (w := w) g18 D18.kp b18 (ok_same0 F18)
  have S1 := has_of (base := base) (P := P) (w := w) g18 D18.kp b18 (ok_same F18 T S0)
  have S2 := has_of (base := base) (P := P) (w := w) g18 D18.kp b18 (ok_same F18 T S1)
  have S3 := has_of (base := base) (P := P) (w := w) g18 D18.kp b18 (ok_same F18 T S2)
  have KM : ∃ (f : Addr) (fd : FuncData), _root_.L2.Mk K (He.ga K "Draft") f ∧ Binds K fd ["self", "rows"] [] ∧ FnOk P w K mg base CX0 6 f fd ["self", "rows"] (spInit K (He.ga K "Draft")) := ⟨_, e0, KD, q0, ok_init M0 T B (H8.mono (by decide)) (H11.mono (by decide))⟩
  have Y1 : HasM P w K mg base (L2.CX P w) 3 (He.ga K "Draft") "check_even" ["self"] (spCheckEven K (He.ga K "Draft") (He.ga K "HasEven")) := ⟨⟨_, e1, a1, q1, ok_checkEven M1 T B EE⟩, CD⟩
  have Y2 : HasM P w K mg base (L2.CX P w) 4 (He.ga K "Draft") "reasons" ["self"] (spReasons K (He.ga K "Draft") (He.ga K "HasEven")) := ⟨⟨_, e2, a2, q2, ok_reasons M2 T B Y1 (H14.mono (by decide))⟩, CD⟩
  have Y3 : HasM P w K mg base CX0 4 (He.ga K "Draft") "is_reason" ["self", "thing", "earlier"] (spIsReason K (He.ga K "Draft")) := ⟨⟨_, e3, a3, q3, ok_isReason M3 T B (H2.mono (by decide)) (H0.mono (by decide)) (H1.mono (by decide)) (H15.mono (by decide)) (H14.mono (by decide))⟩, CD⟩
  have Y4 : HasM P w K mg base (L2.CX P w) 5 (He.ga K "Draft") "are_reasons" ["self", "thing"] (spAreReasons K (He.ga K "Draft") (He.ga K "HasEven")) := ⟨⟨_, e4, a4, q4, ok_areReasons M4 T B (Y1.mono (by decide)) (H1.mono (by decide)) Y3⟩, CD⟩
  have Y5 : HasM P w K mg base (L2.CX P w) 5 (He.ga K "Draft") "room" ["self", "at"] (spRoom K (He.ga K "Draft") (He.ga K "HasEven")) := ⟨⟨_, e5, a5, q5, ok_room M5 T B (Y1.mono (by decide))⟩, CD⟩
  have MM : Met K mg (He.ga K "HasEven") := ⟨⟨_, d27, g27, F27⟩, gE, eE, XE, nE⟩
  have LL : TL P w K mg base (He.ga K "Draft") (He.ga K "HasEven") := ⟨T, H17, H16, H19, H22, H26, H29, H30, S1, S3, MM, B, gD, KM, Y2, Y4, Y5⟩
  exact ok_law CF LL TL1 (List.mem_cons_self ..) fun p hp _ => by rw [List.mem_singleton.mp hp]

end DR
open PySem PySem.W PySem.Calls PyProof.Rows
theorem PySem.Challenge.cw_loadanywhere_k56_reasons_holds : PySem.Challenge.rw_loadanywhere_k56_reasons.Holds := by
  w_on; o_law
  refine HandSHeadRun.head_any (r := DR.RR) (q := view DR.RR.prog [54]) (H := DR.hkk) (ob := DR.obb) (M := 6000) (loose := DR.loosL) (d := HandSHeadRun.topDef DR.RR.prog 54) (kwd := []) DR.obb_eq
    (by kernel_rfl) (fun s => by kernel_rfl) DR.runL (by kernel_rfl) (by kernel_rfl) (by kernel_rfl) (by rfl) (by first | assumption | decide +kernel) (by decide +kernel) ⟨rfl, rfl, rfl, rfl, rfl, by decide +kernel⟩ ?hw ?hc
  case hw => w_witness2
  case hc =>
    refine LamX.walk_ofTsE (l := PySem.Challenge.rw_loadanywhere_k56_reasons) (n := 63) (k := 11) (x := "script") (CX := fun w => L2.CX PySem.Challenge.rw_loadanywhere_k56_reasons.prog w) rfl (by decide) (by kernel_rfl) ⟨rfl, by decide, by decide⟩ ?F (fun _ _ _ _ _ z => by
      obtain ⟨_, _, _, _, _, _, _, _, _, _, _, _, y⟩ := z
      exact y.elim)
    intro w mg fa h Y G hmg0
    obtain ⟨K, KX, c⟩ := Y
    have hmg : mg ("law" : PySem.Str) = some (.ref fa) := by
      have e : (HandSHeadRun.topDef DR.RR.prog 54).name = ("law" : PySem.Str) := by kernel_rfl
      rw [← e]
      exact hmg0
    have gL := He.glo_ok KX G (c.t.d.fact 31 (f := .glo "law") rfl)
    have efa := hmg.symm.trans gL
    cases efa
    obtain ⟨fd, hb, hF⟩ := DR.facts (P := PySem.Challenge.rw_loadanywhere_k56_reasons.prog) (w := w) KX G c
    refine ⟨K, KX, fd, [DR.cL K], DR.spLaw K (DR.TT K), ?_, ?_, ?_, hb, ?_, ?_⟩
    · intro p hp
      obtain rfl := List.mem_singleton.mp hp
      exact c.empty ("law", none) (List.mem_cons_self ..)
    · intro p hp
      obtain rfl := List.mem_singleton.mp hp
      exact c.out ("law", none) (List.mem_cons_self ..)
    · intro p hp
      obtain rfl := List.mem_singleton.mp hp
      exact codeHd_of_K KX (c.hd ("law", none) (List.mem_cons_self ..))
    · intro H a ns _ _ hT hS
      refine ⟨a, ns, rfl, hS, fun p hp => ?_, fun _ => rfl⟩
      obtain rfl := List.mem_singleton.mp hp
      exact LamX.TabS.nil (hT (DR.cL K) (List.mem_cons_self ..))
    · intro base Xb Gb hT
      exact hF base Xb Gb (hT _ (List.mem_cons_self ..))
