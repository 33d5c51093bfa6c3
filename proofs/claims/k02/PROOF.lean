import PyProof.Rows.All
import Wide.All
import OpenK.AllK
import Wide.FinOn
import HandS.ForMost
import HandS.ForExc
import PySem.Challenge.RW_loadanywhere_k02_code_words
import HandS.IsInst
import HandS.Walk
import HandS.More
import HandS.Dict
import KE.SortKeyHeap
import KE.SortData
import HandS.SortKw
import HandS.ExcInit
import HandS.ExcField
import HandS.Defaults
import HandS.Lambda
import HandS.EndTab
import KE.DataEq
import Wide.Once
import KE.KStateDown
import Lean
import HandS.Ends
import HandS.Head0
import HandS.Head1
import HandS.Head2
import HandS.HeadHook1
import HandS.HeadHook2
import HandS.HeadHook3
import HandS.HeadHook4
import HandS.HeadWalk
set_option Elab.async false
set_option linter.all false
set_option maxRecDepth 100000
set_option maxHeartbeats 0
namespace K2
open PySem PySem.Spec PyProof.Rows L2
/-! ### the text by places -/
def topS (i : Nat) : Stmt := PySem.Challenge.pw_loadanywhere_k02_code_words.main.body.getD i (.Pass ⟨0, 0, 0, 0⟩)
/-- a def of the text that stands at a global name and keeps its promise -/
structure Has (P : Program) (w : World) (K : PySem.W.Frag) (mg : Str → Option Value) (base : Heap) (CX : CXT) (k : Nat) (x : Str) (ps : List Str) (sp : Sp) : Prop where
  ex : ∃ (f : Addr) (fd : FuncData), mg x = some (.ref f) ∧ PySem.W.keepIn K (.ref f) = true ∧ Binds K fd ps [] ∧ FnOk P w K mg base CX k f fd ps sp
theorem Has.mono {P : Program} {w : World} {K : PySem.W.Frag} {mg : Str → Option Value} {base : Heap} {CX : CXT} {j k : Nat} {x : Str} {ps : List Str} {sp : Sp} (h : Has P w K mg base CX j x ps sp) (l : j ≤ k) : Has P w K mg base CX k x ps sp := by
  obtain ⟨f, fd, a, b, c, d⟩ := h.ex
  exact ⟨f, fd, a, b, c, d.mono l⟩
section
variable {X : Cx} {CX : CXT} {k : Nat} {ps : List Str} {sp : Sp} {E : XK} {x : Str} {p pos : Pos} {e : Expr} {es : List Expr} {t : TA}
theorem pe_callH (F : Has X.prog X.w X.K X.mg X.base CX k x ps sp) (hr : Room k X.A) (hg : Gl X x) (hx : Passes CX X E)
    (ha : PA X (e :: es) t) (hdb : (x == ("__debug__" : Str)) = false := by decide) (he : starEach (e :: es) X.env = (false, eval e X.env) :: starEach es X.env := by rfl) (hpl : (backTo pos (starEach es X.env)).any (·.1) = false := by rfl) :
    PE X (.Call (.Name x p) (e :: es) [] pos) (tCall sp [] E t) := by
  obtain ⟨f, fd, a, b, c, d⟩ := F.ex
  exact pe_call d hr hg a b c .nil hx ha hdb he hpl
end
/-! ### the law's draws -/
abbrev sCell : Stmt := topS 27
abbrev sPool : Stmt := topS 28
abbrev sTake : Stmt := topS 29
abbrev sOne : Stmt := topS 30
theorem scCell : FnScope ["script", "k"] ["script", "k"] (defScope sCell) := ⟨rfl, rfl, rfl, by decide +kernel, rfl, by decide +kernel, by decide +kernel⟩
theorem scPool : FnScope ["cell", "folded"] ["cell"] (defScope sPool) := ⟨rfl, rfl, rfl, by decide +kernel, rfl, by decide +kernel, by decide +kernel⟩
theorem scTake : FnScope ["pool", "many", "draw", "mixed"] ["pool", "many"] (defScope sTake) := ⟨rfl, rfl, rfl, by decide +kernel, rfl, by decide +kernel, by decide +kernel⟩
theorem scOne : FnScope ["pool", "things"] ["pool", "things"] (defScope sOne) := ⟨rfl, rfl, rfl, by decide +kernel, rfl, by decide +kernel, by decide +kernel⟩
/-- some int comes back -/
def spCell (K : PySem.W.Frag) : Sp := fun vs H Q _ => ∃ (l : Addr) (ns : List Int) (j : Nat), vs = [.ref l, .int (j : Int)] ∧ SqL K H l (ns.map V.int) ∧ ∀ n : Int, Q (.int n) H
section
variable {P : Program} {w : World} {K : PySem.W.Frag} {mg : Str → Option Value} {base : Heap}
theorem ok_cell {f : Addr} {fd : FuncData} (F : Fun K "_law_cell" "_law_cell" sCell f fd) (mL : mg "len" = none) : FnOk P w K mg base CX0 1 f fd ["script", "k"] (spCell K) := by
  refine F.ok scCell (fun vs H Q E h => ?_) (fun cdv A outer s H vs Q E hr h => ?_)
  · obtain ⟨l, ns, j, rfl, _⟩ := h
    rfl
  · obtain ⟨l, ns, j, rfl, hs, q⟩ := h
    refine ⟨_, pss_cons (ps_if (pt_cmpR op_lt (pv 1) (pe_callB call_len_seq (by rfl) mL PySem.boot_len (pa_cons (pv 0) pa_nil)) (nomark _))
        (pss_one (ps_ret (pe_ix ix_list (pv 0) (pv 1) (fun _ _ => rfl)))) pss_nil) (pss_one (ps_ret pe_int)), ?_⟩
    refine ⟨_, rfl, _, rfl, l, _, rfl, .inl hs, _, _, rfl, rfl, _, rfl, ?_⟩
    refine ite2 (fun hd => ?_) (fun hd => ?_)
    · have hj : (j : Int) < ((ns.map V.int).length : Int) := of_decide_eq_true hd
      rw [List.length_map] at hj
      have hj' : j < ns.length := by omega
      refine ⟨_, rfl, _, rfl, l, _, _, .int ns[j], rfl, rfl, hs, ?_, q _⟩
      unfold atI ixN
      rw [List.length_map, if_pos (by omega), if_pos (by omega)]
      show (ns.map V.int)[((j : Int)).toNat]? = _
      rw [Int.toNat_natCast, List.getElem?_map, List.getElem?_eq_getElem hj']
      rfl
    · exact q 0
end

/-- the names of built-ins that the law and the program ask -/
structure Bi (mg : Str → Option Value) : Prop where
  len : mg "len" = none
  int : mg "int" = none
  str : mg "str" = none
  bool : mg "bool" = none
  list : mg "list" = none
  tuple : mg "tuple" = none
  isinstance : mg "isinstance" = none
  any : mg "any" = none
  all : mg "all" = none
  sorted : mg "sorted" = none
  range : mg "range" = none
/-- a pool of draws at p -/
structure Pool (H : Hp) (p : Addr) (c : Nat) : Prop where
  ex : ∃ a b z : Int, H p = some (.lst [.int a, .int b, .int z]) ∧ 0 ≤ a ∧ 0 ≤ b ∧ b < 1000000007 ∧ 0 ≤ z ∧ z ≤ (c : Int)
def spPool : Sp := fun vs H Q _ => ∃ n : Int, vs = [.int n] ∧ ∀ p o, H p = none → Pool (upd H p o) p 0 → Q (.ref p) (upd H p o)
def spTake : Sp := fun vs H Q _ => ∃ (p : Addr) (c : Nat) (m : Int), vs = [.ref p, .int m] ∧ Pool H p c ∧ c < 100000 ∧ 0 < m ∧ m < 1000000 ∧
  ∀ (r : Int) (o : HO), 0 ≤ r → r < m → Pool (upd H p o) p (c + 1) → Q (.int r) (upd H p o)
def spOne (K : PySem.W.Frag) : Sp := fun vs H Q _ => ∃ (p t : Addr) (c : Nat) (xs : List V), vs = [.ref p, .ref t] ∧ Pool H p c ∧ c < 100000 ∧ (SqL K H t xs ∨ SqT K H t xs) ∧ t ≠ p ∧ 0 < xs.length ∧ xs.length < 1000000 ∧
  ∀ (v : V) (o : HO), v ∈ xs → Pool (upd H p o) p (c + 1) → Q v (upd H p o)
theorem at3 {a b c : V} (i : Nat) (v : V) (h : [a, b, c][i]? = some v) : atI [a, b, c] (i : Int) = some v := by
  have hi : i < 3 := (List.getElem?_eq_some_iff.mp h).1
  unfold atI ixN
  rw [if_pos (by omega), if_pos (by show (i : Int) < ((3 : Nat) : Int); omega)]
  show ([a, b, c] : List V)[((i : Int)).toNat]? = _
  rw [Int.toNat_natCast]
  exact h
theorem pw_bound {b z : Int} (h0 : 0 ≤ b) (h1 : b < 1000000007) (h2 : 0 ≤ z) (h3 : z ≤ 100001) : CPow (b + 7919 * z + 104729) 5 := ⟨by decide, by decide, by omega⟩
section
variable {P : Program} {w : World} {K : PySem.W.Frag} {mg : Str → Option Value} {base : Heap}
theorem ok_pool {f : Addr} {fd : FuncData} (F : Fun K "_law_pool" "_law_pool" sPool f fd) (T : Bi mg) : FnOk P w K mg base CX0 1 f fd ["cell"] spPool := by
  refine F.ok scPool (fun vs H Q E h => ?_) (fun cdv A outer s H vs Q E hr h => ?_)
  · obtain ⟨n, rfl, _⟩ := h
    rfl
  · obtain ⟨n, rfl, q⟩ := h
    refine ⟨_, (pss_cons (ps_set (i := 1) scPool.nd rfl (.inl rfl) (pe_op op_mul pe_int (pv 0)))
      (pss_cons (ps_if (pt_cmpR op_lt (pv 0) pe_int (nomark _)) (pss_one (ps_set (i := 1) scPool.nd rfl (.inl rfl) (pe_op op_sub (pe_op op_sub pe_int (pe_op op_mul pe_int (pv 0))) pe_int))) pss_nil)
      (pss_cons (ps_if (pt_cmpR op_ge (pv 1) (pe_op op_pow pe_int pe_int) (nomark _)) (pss_one (ps_ret (pe_lst (pa_cons (pv 1) (pa_cons (pe_op op_mod (pe_callTy call_int1 (by rfl) T.int (by decide +kernel) (pa_cons (pv 1) pa_nil)) pe_int) (pa_cons pe_int pa_nil)))))) pss_nil)
      (pss_one (ps_ret (pe_lst (pa_cons pe_int (pa_cons (pe_op op_mod (pe_callTy call_int1 (by rfl) T.int (by decide +kernel) (pa_cons (pv 1) pa_nil)) pe_int) (pa_cons pe_int pa_nil))))))))), ?_⟩
    refine ⟨_, rfl, _, _, rfl, rfl, .inl ⟨by decide, by decide⟩, ?_⟩
    have fin : ∀ z : Int, (tSeq (tIfS (tTest (tOp (rI0 fun i j => .bl (decide (j ≤ i))) (tVar 1) (tOp (rI CPow fun i j => .int (i ^ j.toNat)) (tC (.int 10)) (tC (.int 18)))))
        (tRet (tLst (tCons (tVar 1) (tCons (tOp (rI (fun _ j => 0 < j) fun i j => .int (i % j)) (tCB (fun xs H Q => (∃ i, xs = [.int i] ∧ Q (.int i) H) ∨ ∃ k, xs = [.bl k] ∧ Q (.int (if k then 1 else 0)) H) (tCons (tVar 1) tNil)) (tC (.int 1000000007))) (tCons (tC (.int 0)) tNil))))) tNext)
        (tRet (tLst (tCons (tC (.int 0)) (tCons (tOp (rI (fun _ j => 0 < j) fun i j => .int (i % j)) (tCB (fun xs H Q => (∃ i, xs = [.int i] ∧ Q (.int i) H) ∨ ∃ k, xs = [.bl k] ∧ Q (.int (if k then 1 else 0)) H) (tCons (tVar 1) tNil)) (tC (.int 1000000007))) (tCons (tC (.int 0)) tNil))))))
        { nx := fun _ H' => Q .non H', rt := Q } [some (.int n), some (.int z)] H := by
      intro z
      refine ⟨_, rfl, _, _, rfl, rfl, ⟨by decide, by decide, by decide⟩, _, _, rfl, rfl, _, rfl, ?_⟩
      refine ite2 (fun c => ?_) (fun c => ?_)
      · have c' : (10 : Int) ^ (18 : Int).toNat ≤ z := of_decide_eq_true c
        refine ⟨_, rfl, _, rfl, .inl ⟨_, rfl, _, _, rfl, rfl, (by show (0 : Int) < 1000000007; decide), (by show 3 ≤ sizeLine; decide), fun p hp => ?_⟩⟩
        refine q p _ hp ⟨_, _, _, upd_same, Int.le_trans (by decide) c', Int.emod_nonneg _ (by decide), Int.emod_lt_of_pos _ (by decide), by decide, by decide⟩
      · refine ⟨_, rfl, .inl ⟨_, rfl, _, _, rfl, rfl, (by show (0 : Int) < 1000000007; decide), (by show 3 ≤ sizeLine; decide), fun p hp => ?_⟩⟩
        refine q p _ hp ⟨_, _, _, upd_same, by decide, Int.emod_nonneg _ (by decide), Int.emod_lt_of_pos _ (by decide), by decide, by decide⟩
    refine ⟨_, rfl, _, _, rfl, rfl, _, rfl, ?_⟩
    refine ite2 (fun c => ?_) (fun c => fin _)
    refine ⟨_, rfl, _, _, rfl, rfl, .inl ⟨by decide, by decide⟩, _, _, rfl, rfl, _, _, rfl, rfl, fin _⟩
theorem ok_take {f : Addr} {fd : FuncData} (F : Fun K "_law_take" "_law_take" sTake f fd) (T : Bi mg) : FnOk P w K mg base CX0 1 f fd ["pool", "many"] spTake := by
  refine F.ok scTake (fun vs H Q E h => ?_) (fun cdv A outer s H vs Q E hr h => ?_)
  · obtain ⟨p, c, m, rfl, _⟩ := h
    rfl
  · obtain ⟨p, c, m, rfl, ⟨a, b, z, hp, ha, hb, hb2, hz, hz2⟩, hc, hm, hm2, q⟩ := h
    refine ⟨_, (pss_cons (ps_if (pt_cmpR op_gt (pe_ix ix_list (pv 0) pe_int (fun _ _ => rfl)) pe_int (nomark _)) (pss_cons (ps_set (i := 2) scTake.nd rfl (.inl rfl) (pe_op op_mod (pe_callTy call_int1 (by rfl) T.int (by decide +kernel) (pa_cons (pe_ix ix_list (pv 0) pe_int (fun _ _ => rfl)) pa_nil)) (pv 1)))
      (pss_cons (ps_asg (pe_op op_fdiv (pe_ix ix_list (pv 0) pe_int (fun _ _ => rfl)) (pv 1)) (pg_sub (pv 0) pe_int set_list))
      (pss_one (ps_ret (pv 2))))) pss_nil)
      (pss_cons (ps_asg (pe_op op_add (pe_ix ix_list (pv 0) pe_int (fun _ _ => rfl)) pe_int) (pg_sub (pv 0) pe_int set_list))
      (pss_cons (ps_set (i := 3) scTake.nd rfl (.inl rfl) (pe_op op_mod (pe_callTy call_int1 (by rfl) T.int (by decide +kernel) (pa_cons (pe_op op_pow (pe_op op_add (pe_op op_add (pe_ix ix_list (pv 0) pe_int (fun _ _ => rfl)) (pe_op op_mul pe_int (pe_ix ix_list (pv 0) pe_int (fun _ _ => rfl)))) pe_int) pe_int) pa_nil)) pe_int))
      (pss_one (ps_ret (pe_op op_mod (pe_op op_mod (pe_callTy call_int1 (by rfl) T.int (by decide +kernel) (pa_cons (pe_op op_mul (pe_op op_add (pv 3) (pe_ix ix_list (pv 0) pe_int (fun _ _ => rfl))) pe_int) pa_nil)) pe_int) (pv 1))))))), ?_⟩
    have s0 : SqL K H p [.int a, .int b, .int z] := SqL.of hp
    refine ⟨_, rfl, p, _, _, _, rfl, rfl, s0, at3 0 _ rfl, _, _, rfl, rfl, _, rfl, ?_⟩
    refine ite2 (fun cc => ?_) (fun cc => ?_)
    · have h0 : 0 < a := of_decide_eq_true cc
      refine ⟨_, rfl, p, _, _, _, rfl, rfl, s0, at3 0 _ rfl, .inl ⟨_, rfl, _, rfl, _, _, rfl, rfl, hm, ?_⟩⟩
      refine ⟨_, rfl, p, _, _, _, rfl, rfl, s0, at3 0 _ rfl, _, rfl, _, _, rfl, rfl, ⟨hm, by omega⟩, ?_⟩
      refine ⟨_, rfl, p, _, _, 0, rfl, rfl, hp, rfl, _, rfl, ?_⟩
      exact q _ _ (Int.emod_nonneg _ (by omega)) (Int.emod_lt_of_pos _ hm) ⟨_, _, _, upd_same, Int.ediv_nonneg ha (by omega), hb, hb2, hz, by omega⟩
    · refine ⟨_, rfl, p, _, _, _, rfl, rfl, s0, at3 2 _ rfl, _, _, rfl, rfl, _, rfl, p, _, _, 2, rfl, rfl, hp, rfl, ?_⟩
      have s1 : SqL K (upd H p (.lst [.int a, .int b, .int (z + 1)])) p [.int a, .int b, .int (z + 1)] := SqL.of upd_same
      refine ⟨_, rfl, p, _, _, _, rfl, rfl, s1, at3 1 _ rfl, _, rfl, p, _, _, _, rfl, rfl, s1, at3 2 _ rfl, _, _, rfl, rfl, .inl ⟨by decide, by decide⟩, _, _, rfl, rfl, _, _, rfl, rfl, _, _, rfl, rfl, pw_bound hb hb2 (by omega) (by omega), .inl ⟨_, rfl, _, _, rfl, rfl, (by show (0 : Int) < 2147483647; decide), ?_⟩⟩
      refine ⟨_, rfl, _, rfl, p, _, _, _, rfl, rfl, s1, at3 2 _ rfl, _, _, rfl, rfl, _, _, rfl, rfl, .inr ⟨by decide, by decide⟩, .inl ⟨_, rfl, _, _, rfl, rfl, (by show (0 : Int) < 2147483629; decide), _, rfl, _, _, rfl, rfl, hm, ?_⟩⟩
      exact q _ _ (Int.emod_nonneg _ (by omega)) (Int.emod_lt_of_pos _ hm) ⟨_, _, _, upd_same, ha, hb, hb2, by omega, by omega⟩
theorem at_mem {xs : List V} {r : Int} (h0 : 0 ≤ r) (h1 : r < (xs.length : Int)) : ∃ v, atI xs r = some v ∧ v ∈ xs := by
  have h2 : r.toNat < xs.length := by omega
  refine ⟨xs[r.toNat], ?_, List.getElem_mem _⟩
  unfold atI ixN
  rw [if_pos h0, if_pos h1]
  exact List.getElem?_eq_getElem h2
theorem ok_one {f : Addr} {fd : FuncData} (F : Fun K "_law_one" "_law_one" sOne f fd) (T : Bi mg) (G : Has P w K mg base CX0 1 "_law_take" ["pool", "many"] spTake) : FnOk P w K mg base CX0 2 f fd ["pool", "things"] (spOne K) := by
  refine F.ok scOne (fun vs H Q E h => ?_) (fun cdv A outer s H vs Q E hr h => ?_)
  · obtain ⟨p, t, c, xs, rfl, _⟩ := h
    rfl
  · obtain ⟨p, t, c, xs, rfl, hP, hc, hx, hne, hl, hl2, q⟩ := h
    refine ⟨_, (pss_one (ps_ret (pe_ix ix_seq (pv 1) (pe_callH G hr (by rfl) pass0 (pa_cons (pv 0) (pa_cons (pe_callB call_len_seq (by rfl) T.len (by decide +kernel) (pa_cons (pv 1) pa_nil)) pa_nil))) (fun _ _ => rfl)))), ?_⟩
    refine ⟨_, rfl, _, rfl, _, rfl, t, xs, rfl, hx, p, c, _, rfl, hP, hc, by omega, by omega, fun r o h0 h1 hP' => ?_⟩
    obtain ⟨v, hv, hm⟩ := at_mem h0 h1
    rcases hx with hx | hx
    · refine .inl ⟨t, xs, _, v, rfl, rfl, ?_, hv, q v o hm hP'⟩
      rcases hx with (hx | ⟨u, hx⟩) | hx
      · exact .inl (.inl (by rw [upd_ne hne]; exact hx))
      · exact .inl (.inr ⟨u, by rw [upd_ne hne]; exact hx⟩)
      · exact .inr hx
    · refine .inr (.inl ⟨t, xs, _, v, rfl, rfl, ?_, hv, q v o hm hP'⟩)
      rcases hx with (hx | ⟨u, hx⟩) | hx
      · exact .inl (.inl (by rw [upd_ne hne]; exact hx))
      · exact .inl (.inr ⟨u, by rw [upd_ne hne]; exact hx⟩)
      · exact .inr hx
end

/-! ### things: data, and the empty dict -/
theorem rd_same {H H' : Hp} {a : Addr} {u : HO} (e : Same H H') (h : Rd H a u) : Rd H' a u := by
  rcases h with h | ⟨o, h⟩
  · exact .inl (e _ _ h)
  · exact .inr ⟨o, e _ _ h⟩
theorem sqL_same {K : PySem.W.Frag} {H H' : Hp} {a : Addr} {xs : List V} (e : Same H H') (h : SqL K H a xs) : SqL K H' a xs := e.seq h
theorem sqT_same {K : PySem.W.Frag} {H H' : Hp} {a : Addr} {xs : List V} (e : Same H H') (h : SqT K H a xs) : SqT K H' a xs := by
  rcases h with h | h
  · exact .inl (rd_same e h)
  · exact .inr h
mutual
theorem dp_same {K : PySem.W.Frag} {H H' : Hp} (e : Same H H') : ∀ {v : V} {d : PyData}, Dp K H v d → Dp K H' v d
  | _, _, .non => .non
  | _, _, .bl b => .bl b
  | _, _, .int i => .int i
  | _, _, .str x => .str x
  | _, _, .lst s a => .lst (sqL_same e s) (dps_same e a)
  | _, _, .tup s a => .tup (sqT_same e s) (dps_same e a)
theorem dps_same {K : PySem.W.Frag} {H H' : Hp} (e : Same H H') : ∀ {vs : List V} {ds : List PyData}, DpAll K H vs ds → DpAll K H' vs ds
  | _, _, .nil => .nil
  | _, _, .cons h t => .cons (dp_same e h) (dps_same e t)
end
theorem same_new {H : Hp} {p : Addr} {o : HO} (h : H p = none) : Same H (upd H p o) := fun b x e => by
  rw [upd_ne (ne_of_none e h)]
  exact e
/-- data, or a dict -/
inductive Th (K : PySem.W.Frag) (H : Hp) : V → PyData → Prop
  | dat {v : V} {d : PyData} : Dp K H v d → Th K H v d
  | dct {a : Addr} {kvs : List (Key × V)} : H a = some (.dK kvs) → Th K H (.ref a) (.dict [])
theorem th_same {K : PySem.W.Frag} {H H' : Hp} (e : Same H H') {v : V} {d : PyData} : Th K H v d → Th K H' v d
  | .dat h => .dat (dp_same e h)
  | .dct h => .dct (e _ _ h)
def tyN : PyData → String
  | .none => "NoneType"
  | .bool _ => "bool"
  | .int _ => "int"
  | .str _ => "str"
  | .list _ => "list"
  | .tuple _ => "tuple"
  | .dict _ => "dict"
theorem ty_list {K : PySem.W.Frag} {H : Hp} {a : Addr} {xs : List V} (h : SqL K H a xs) : TyX K H (.ref a) (.type "list") := by
  rcases h with (h | ⟨o, h⟩) | ⟨o, its, n, h, c, _⟩
  · exact .base (.lst h)
  · exact .base (.frz h)
  · exact .kList h c
theorem ty_tup {K : PySem.W.Frag} {H : Hp} {a : Addr} {xs : List V} (h : SqT K H a xs) : TyX K H (.ref a) (.type "tuple") := by
  rcases h with (h | ⟨o, h⟩) | ⟨o, its, n, h, c, _⟩
  · exact .base (.tup h)
  · exact .fTuple h
  · exact .kTuple h c
theorem th_ty {K : PySem.W.Frag} {H : Hp} {v : V} {d : PyData} (h : Th K H v d) : TyX K H v (.type (tyN d)) := by
  cases h with
  | dct h => exact .base (.dK h)
  | dat h =>
    cases h with
    | non => exact .base .non
    | bl b => exact .base (.bl b)
    | int i => exact .base (.int i)
    | str x => exact .base (.str x)
    | lst s _ => exact ty_list s
    | tup s _ => exact ty_tup s
def isI : PyData → Bool
  | .int _ => true
  | _ => false
def isIB : PyData → Bool
  | .int _ => true
  | .bool _ => true
  | _ => false
def isB : PyData → Bool
  | .bool _ => true
  | _ => false
def isS : PyData → Bool
  | .str _ => true
  | _ => false
def isR : PyData → Bool
  | .list _ => true
  | .tuple _ => true
  | _ => false
def tyNs : List String := ["NoneType", "bool", "int", "str", "list", "tuple", "dict"]
theorem tyN_mem (d : PyData) : tyN d ∈ tyNs := by cases d <;> simp [tyN, tyNs]
theorem kb_int : ∀ n ∈ tyNs, kitB n "int" = some (n == "int" || n == "bool") := by decide +kernel
theorem kb_bool : ∀ n ∈ tyNs, kitB n "bool" = some (n == "bool") := by decide +kernel
theorem kb_str : ∀ n ∈ tyNs, kitB n "str" = some (n == "str") := by decide +kernel
theorem kb_list : ∀ n ∈ tyNs, kitB n "list" = some (n == "list") := by decide +kernel
theorem kb_tup : ∀ n ∈ tyNs, kitB n "tuple" = some (n == "tuple") := by decide +kernel
theorem kit_int {K : PySem.W.Frag} (d : PyData) : PySem.W.kitOne K (.type (tyN d)) (.type "int") = some (isIB d) := by
  have h := kb_int _ (tyN_mem d)
  have e : (tyN d == "int" || tyN d == "bool") = isIB d := by cases d <;> rfl
  rw [e] at h
  exact kit_ty h
theorem kit_bool {K : PySem.W.Frag} (d : PyData) : PySem.W.kitOne K (.type (tyN d)) (.type "bool") = some (isB d) := by
  have h := kb_bool _ (tyN_mem d)
  have e : (tyN d == "bool") = isB d := by cases d <;> rfl
  rw [e] at h
  exact kit_ty h
theorem kit_str {K : PySem.W.Frag} (d : PyData) : PySem.W.kitOne K (.type (tyN d)) (.type "str") = some (isS d) := by
  have h := kb_str _ (tyN_mem d)
  have e : (tyN d == "str") = isS d := by cases d <;> rfl
  rw [e] at h
  exact kit_ty h
theorem kit_row {K : PySem.W.Frag} (d : PyData) : PySem.W.kitAny K (.type (tyN d)) [.type "list", .type "tuple"] = some (isR d) := by
  have h1 := kb_list _ (tyN_mem d)
  have h2 := kb_tup _ (tyN_mem d)
  refine kitAny_cons (kit_ty h1) (fun z => kitAny_cons (kit_ty h2) (fun z2 => ?_) fun z2 => ?_) fun z => ?_
  all_goals
    revert z
    try revert z2
    cases d <;> simp [tyN, isR, kitAny_nil]
/-- isinstance of a thing, one class -/
theorem isi1 {K : PySem.W.Frag} {H : Hp} {v : V} {d : PyData} {n : String} {b : Bool} {Q : VK} (h : Th K H v d) (k : PySem.W.kitOne K (.type (tyN d)) (.type n) = some b) (q : Q (.bl b) H) : rIsi K [v, .ty n] H Q :=
  ⟨v, .ty n, _, _, b, rfl, .ty n, th_ty h, k, q⟩
def spIsInt (K : PySem.W.Frag) : Sp := fun vs H Q _ => ∃ v d, vs = [v] ∧ Th K H v d ∧ Q (.bl (isI d)) H
def spIsRow (K : PySem.W.Frag) : Sp := fun vs H Q _ => ∃ v d, vs = [v] ∧ Th K H v d ∧ ∀ H', Same H H' → Q (.bl (isR d)) H'
/-- the items of a list or tuple -/
def items : PyData → Option (List PyData)
  | .list xs => some xs
  | .tuple xs => some xs
  | _ => none
def isRof (d : PyData) (n : Int) : Bool := match items d with
  | some xs => decide ((xs.length : Int) = n)
  | none => false
def spIsRowOf (K : PySem.W.Frag) : Sp := fun vs H Q _ => ∃ v d n, vs = [v, .int n] ∧ Th K H v d ∧ ∀ H', Same H H' → Q (.bl (isRof d n)) H'
theorem dps_len {K : PySem.W.Frag} {H : Hp} : ∀ {vs : List V} {ds : List PyData}, DpAll K H vs ds → vs.length = ds.length
  | _, _, .nil => rfl
  | _, _, .cons _ t => congrArg (· + 1) (dps_len t)
/-- a thing that is a row: its place and items -/
theorem th_row {K : PySem.W.Frag} {H : Hp} {v : V} {d : PyData} (h : Th K H v d) {ds : List PyData} (e : items d = some ds) : ∃ a xs, v = .ref a ∧ (SqL K H a xs ∨ SqT K H a xs) ∧ DpAll K H xs ds := by
  cases h with
  | dct h => cases e
  | dat h =>
    cases h with
    | non => cases e
    | bl b => cases e
    | int i => cases e
    | str x => cases e
    | lst s t =>
      cases e
      exact ⟨_, _, rfl, .inl s, t⟩
    | tup s t =>
      cases e
      exact ⟨_, _, rfl, .inr s, t⟩
theorem isR_items (d : PyData) : isR d = (items d).isSome := by cases d <;> rfl
abbrev sIsInt : Stmt := topS 6
abbrev sIsRow : Stmt := topS 7
abbrev sIsRowOf : Stmt := topS 8
abbrev sIsName : Stmt := topS 9
theorem scIsInt : FnScope ["thing"] ["thing"] (defScope sIsInt) := ⟨rfl, rfl, rfl, by decide +kernel, rfl, by decide +kernel, by decide +kernel⟩
theorem scIsRow : FnScope ["thing"] ["thing"] (defScope sIsRow) := ⟨rfl, rfl, rfl, by decide +kernel, rfl, by decide +kernel, by decide +kernel⟩
theorem scIsRowOf : FnScope ["thing", "many"] ["thing", "many"] (defScope sIsRowOf) := ⟨rfl, rfl, rfl, by decide +kernel, rfl, by decide +kernel, by decide +kernel⟩
theorem scIsName : FnScope ["thing", "letter"] ["thing"] (defScope sIsName) := ⟨rfl, rfl, rfl, by decide +kernel, rfl, by decide +kernel, by decide +kernel⟩
def lettersS : Str := "abcdefghijklmnopqrstuvwxyz"
def isNmS (s : Str) : Bool := decide (1 ≤ (s.length : Int)) && (decide ((s.length : Int) ≤ 8) && s.cps.toList.all fun c => decide (c ∈ lettersS.cps.toList))
def isNm : PyData → Bool
  | .str s => isNmS s
  | _ => false
/-- a thing whose text, if it is one, is not too long -/
def shortS : PyData → Prop
  | .str s => s.length ≤ 1000
  | _ => True
def spIsName (K : PySem.W.Frag) : Sp := fun vs H Q _ => ∃ v d, vs = [v] ∧ Th K H v d ∧ shortS d ∧ ∀ H', Same H H' → Q (.bl (isNm d)) H'
section
variable {P : Program} {w : World} {K : PySem.W.Frag} {mg : Str → Option Value} {base : Heap}
theorem ok_isInt {f : Addr} {fd : FuncData} (F : Fun K "is_integer" "is_integer" sIsInt f fd) (T : Bi mg) : FnOk P w K mg base CX0 1 f fd ["thing"] (spIsInt K) := by
  refine F.ok scIsInt (fun vs H Q E h => ?_) (fun cdv A outer s H vs Q E hr h => ?_)
  · obtain ⟨v, d, rfl, _⟩ := h
    rfl
  · obtain ⟨v, d, rfl, th, q⟩ := h
    refine ⟨_, (pss_one (ps_ret (pe_and (pe_callB call_isi (by rfl) T.isinstance (by decide +kernel) (pa_cons (pv 0) (pa_cons (pe_bltn (v := .ty "int") (by rfl) T.int (by decide +kernel) rfl) pa_nil))) (pe_one (pe_not (pe_callB call_isi (by rfl) T.isinstance (by decide +kernel) (pa_cons (pv 0) (pa_cons (pe_bltn (v := .ty "bool") (by rfl) T.bool (by decide +kernel) rfl) pa_nil)))))))), ?_⟩
    refine ⟨_, rfl, v, _, _, _, _, rfl, .ty "int", th_ty th, kit_int d, _, rfl, ?_⟩
    cases e : isIB d with
    | false =>
      refine iteF ?_
      have z : isI d = false := by cases d <;> first | rfl | cases e
      rw [z] at q
      exact q
    | true =>
      refine iteT ⟨_, rfl, v, _, _, _, _, rfl, .ty "bool", th_ty th, kit_bool d, _, rfl, ?_⟩
      have z : isI d = !isB d := by cases d <;> first | rfl | cases e
      rw [z] at q
      exact q
theorem ok_isRow {f : Addr} {fd : FuncData} (F : Fun K "is_row" "is_row" sIsRow f fd) (T : Bi mg) : FnOk P w K mg base CX0 1 f fd ["thing"] (spIsRow K) := by
  refine F.ok scIsRow (fun vs H Q E h => ?_) (fun cdv A outer s H vs Q E hr h => ?_)
  · obtain ⟨v, d, rfl, _⟩ := h
    rfl
  · obtain ⟨v, d, rfl, th, q⟩ := h
    refine ⟨_, (pss_one (ps_ret (pe_callB call_isiT (by rfl) T.isinstance (by decide +kernel) (pa_cons (pv 0) (pa_cons (pe_tup (pa_cons (pe_bltn (v := .ty "list") (by rfl) T.list (by decide +kernel) rfl) (pa_cons (pe_bltn (v := .ty "tuple") (by rfl) T.tuple (by decide +kernel) rfl) pa_nil))) pa_nil))))), ?_⟩
    refine ⟨_, rfl, (by show 2 ≤ sizeLine; decide), fun p hp => ?_⟩
    refine ⟨v, p, _, _, _, _, rfl, upd_same, .cons (.ty "list") (.cons (.ty "tuple") .nil), th_ty (th_same (same_new hp) th), kit_row d, q _ (same_new hp)⟩
theorem ok_isRowOf {f : Addr} {fd : FuncData} (F : Fun K "is_row_of" "is_row_of" sIsRowOf f fd) (T : Bi mg) (G : Has P w K mg base CX0 1 "is_row" ["thing"] (spIsRow K)) : FnOk P w K mg base CX0 2 f fd ["thing", "many"] (spIsRowOf K) := by
  refine F.ok scIsRowOf (fun vs H Q E h => ?_) (fun cdv A outer s H vs Q E hr h => ?_)
  · obtain ⟨v, d, n, rfl, _⟩ := h
    rfl
  · obtain ⟨v, d, n, rfl, th, q⟩ := h
    refine ⟨_, (pss_one (ps_ret (pe_and (pe_callH G hr (by rfl) pass0 (pa_cons (pv 0) pa_nil)) (pe_one (pe_cmpR op_eq (pe_callB call_len_seq (by rfl) T.len (by decide +kernel) (pa_cons (pv 0) pa_nil)) (pv 1) (nomark _)))))), ?_⟩
    refine ⟨_, rfl, v, d, rfl, th, fun H' sm => ⟨_, rfl, ?_⟩⟩
    rw [isR_items]
    have q' := q H' sm
    unfold isRof at q'
    cases e : items d with
    | none =>
      rw [e] at q'
      exact iteF q'
    | some ds =>
      rw [e] at q'
      obtain ⟨a, xs, rfl, hs, ha⟩ := th_row (th_same sm th) e
      refine iteT ⟨_, rfl, a, xs, rfl, hs, _, rfl, rfl, ?_⟩
      rw [dps_len ha]
      have z : decide (V.int (ds.length : Int) = V.int n) = decide ((ds.length : Int) = n) := by
        by_cases c : (ds.length : Int) = n
        · rw [c]; simp
        · rw [decide_eq_false c]
          exact decide_eq_false fun z => c (V.int.inj z)
      rw [z]
      exact q'
theorem yes_go {σ : L2.St} {H : Hp} {F : Bool → Hp → Prop} (h : F true H) : tYes σ H F := h
theorem ok_isName {f : Addr} {fd : FuncData} {t : Tok} (F : Fun K "is_name" "is_name" sIsName f fd) (T : Bi mg) (gL : mg "LETTERS" = some (.str lettersS t)) : FnOk P w K mg base CX0 1 f fd ["thing"] (spIsName K) := by
  refine F.ok scIsName (fun vs H Q E h => ?_) (fun cdv A outer s H vs Q E hr h => ?_)
  · obtain ⟨v, d, rfl, _⟩ := h
    rfl
  · obtain ⟨v, d, rfl, th, sh, q⟩ := h
    refine ⟨_, (pss_cons (ps_if (PW.pt (pw_or (pt_not (pt_val (pe_callB call_isi (by rfl) T.isinstance (by decide +kernel) (pa_cons (pv 0) (pa_cons (pe_bltn (v := .ty "str") (by rfl) T.str (by decide +kernel) rfl) pa_nil))))) (pw_or1 (pt_not (pt_chain op_le op_le pe_int (pe_callB call_len_str (by rfl) T.len (by decide +kernel) (pa_cons (pv 0) pa_nil)) pe_int))))) (pss_one (ps_ret pe_bl)) pss_nil)
      (pss_one (ps_ret (pe_callB (cr_all rfl) (by rfl) T.all (by decide +kernel) (pa_cons (pe_lc (own := [("letter", 1)]) (g := gName 1) (tt := tYes) rfl scIsName.nd (pi_str (pv 0)) (blkOk_by (N := ["thing", "letter"]) (sc := defScope sIsName) (by decide +kernel)) (fun _ _ _ _ _ => pg_name (i := 1) scIsName.nd rfl (.inl rfl)) (fun _ _ _ _ _ => pts_nil) (fun _ _ _ _ _ => (pe_cmpR op_in_sign (pv 1) (pe_glob (v := .str lettersS) rfl gL ⟨_, rfl⟩) (by rfl)))) pa_nil))))), ?_⟩
    refine ⟨_, rfl, v, _, _, _, _, rfl, .ty "str", th_ty th, kit_str d, _, rfl, ?_⟩
    cases d with
    | str s =>
      obtain rfl : v = .str s := by
        cases th with
        | dat h => cases h; rfl
      have hl : s.length ≤ sizeLine := Nat.le_trans sh (by decide)
      refine iteF ⟨_, rfl, s, rfl, hl, _, _, rfl, rfl, _, rfl, ?_⟩
      have q0 : Q (.bl (isNmS s)) H := q H (Same.refl H)
      unfold isNmS at q0
      cases c1 : decide (1 ≤ (s.length : Int)) with
      | false =>
        rw [c1] at q0
        exact iteF ⟨_, rfl, iteT q0⟩
      | true =>
        refine iteT ⟨_, _, rfl, rfl, _, rfl, ?_⟩
        cases c2 : decide ((s.length : Int) ≤ 8) with
        | false =>
          rw [c1, c2] at q0
          exact iteT q0
        | true =>
          refine iteF ⟨_, rfl, s, rfl, fun D hD => ?_⟩
          have e1 : (isNmS s) = s.cps.toList.all fun c => decide (c ∈ lettersS.cps.toList) := by
            unfold isNmS
            rw [c1, c2]
            rfl
          refine lc_it (walk_str (z := s)) (fun i H' => (∀ b o, b ≠ D → H b = some o → H' b = some o) ∧ H' D = some (.lst (((s.cps.toList.take i).map fun c => decide (c ∈ lettersS.cps.toList)).map V.bl))) ⟨fun b o hb e => by rw [upd_ne hb]; exact e, upd_same⟩ (fun _ _ _ _ => trivial) ?_ ?_
          · rintro i x H1 H2 hi ⟨kp, hd⟩ ⟨rfl, c, hc, rfl⟩
            have hc' : s.cps.toList[i]? = some c := by simpa using hc
            refine ⟨rfl, ?_⟩
            refine yes_go (iteT ?_)
            refine ⟨_, rfl, c, lettersS, rfl, rfl, _, hd, ?_, fun b o hb e => ?_, ?_⟩
            · rw [List.length_map, List.length_map, List.length_take]
              refine Nat.lt_of_le_of_lt (Nat.min_le_right _ _) (Nat.lt_of_le_of_lt (m := 1000) ?_ (by decide))
              have e2 : s.cps.toList.length = s.length := by simp [Str.length]
              have sh' : s.length ≤ 1000 := sh
              omega
            · rw [upd_ne hb]
              exact kp b o hb e
            · rw [upd_same, List.take_add_one, hc']
              simp
          · rintro H1 ⟨kp, hd⟩
            refine ⟨D, _, rfl, SqL.of hd, ?_⟩
            have e2 : s.cps.toList.take s.cps.size = s.cps.toList := by
              rw [← Array.length_toList]
              exact List.take_length
            have e3 : ((s.cps.toList.take s.cps.size).map fun c => decide (c ∈ lettersS.cps.toList)).all id = isNm (.str s) := by
              rw [e2, List.all_map]
              exact e1.symm
            rw [e3]
            exact q H1 fun b o e => kp b o (ne_of_none e hD) e
    | none => exact iteT (q H (Same.refl H))
    | bool b => exact iteT (q H (Same.refl H))
    | int i => exact iteT (q H (Same.refl H))
    | list xs => exact iteT (q H (Same.refl H))
    | tuple xs => exact iteT (q H (Same.refl H))
    | dict xs => exact iteT (q H (Same.refl H))
end

def sPiece : Str := "piece"
def sName : Str := "name"
def sIn : Str := "in"
def rank (z : Str) : Option Int := if z = sPiece then some 0 else if z = sName then some 1 else if z = sIn then some 2 else none
/-- the dict RANKS of the text -/
structure Ranks (K : PySem.W.Frag) (w : World) (mg : Str → Option Value) (d : Addr) : Prop where
  g : mg "RANKS" = some (.ref d)
  kd : ∃ es n, KDict K w d es n
  has : ∀ z i, rank z = some i → ∃ t, PySem.W.nsIn K d z = some (some (.int i t))
  no : ∀ z, rank z = none → PySem.W.nsIn K d z = some none
def ofKey (k : Str) (o : PyData) : Option Key := if k = sIn then (match o with
    | .int i => if 1 ≤ i then some (.inl i) else none
    | _ => none) else (match o with
    | .str s => if isNmS s = true then some (.inr s) else none
    | _ => none)
def unkOf (k : Str) (o : PyData) : Option (List Key) := (rank k).bind fun _ => (ofKey k o).map fun z => [.inr k, z]
def readUnk : PyData → Option (List Key)
  | .tuple [.str k, o] => unkOf k o
  | _ => none
/-- texts in a pair are short -/
def shortP : PyData → Prop
  | .tuple [a, b] => shortS a ∧ shortS b
  | _ => True
def UnkV (H : Hp) (v : V) : Option (List Key) → Prop
  | none => v = .non
  | some u => ∃ a, v = .ref a ∧ H a = some (.tup (u.map kV))
def spReadUnk (K : PySem.W.Frag) : Sp := fun vs H Q _ => ∃ v d, vs = [v] ∧ Th K H v d ∧ (∀ xs, d ≠ .list xs) ∧ shortP d ∧ ∀ v' H', Same H H' → UnkV H' v' (readUnk d) → Q v' H'
abbrev sReadUnk : Stmt := topS 12
theorem scReadUnk : FnScope ["thing", "kind", "of", "right"] ["thing"] (defScope sReadUnk) := ⟨rfl, rfl, rfl, by decide +kernel, rfl, by decide +kernel, by decide +kernel⟩
theorem rank_in : rank sIn = some 2 := by decide +kernel
theorem eq_str (a b : Str) : decide (V.str a = V.str b) = decide (a = b) := by
  by_cases c : a = b
  · rw [c]; simp
  · rw [decide_eq_false c]
    exact decide_eq_false fun z => c (V.str.inj z)
theorem eq_int (a b : Int) : decide (V.int a = V.int b) = decide (a = b) := by
  by_cases c : a = b
  · rw [c]; simp
  · rw [decide_eq_false c]
    exact decide_eq_false fun z => c (V.int.inj z)
theorem th_tup {K : PySem.W.Frag} {H : Hp} {v : V} {ds : List PyData} (h : Th K H v (.tuple ds)) : ∃ a xs, v = .ref a ∧ SqT K H a xs ∧ DpAll K H xs ds := by
  cases h with
  | dat h =>
    cases h with
    | tup s t => exact ⟨_, _, rfl, s, t⟩
section
variable {P : Program} {w : World} {K : PySem.W.Frag} {mg : Str → Option Value} {base : Heap}
theorem ok_readUnk {f d0 : Addr} {fd : FuncData} (F : Fun K "read_unknown" "read_unknown" sReadUnk f fd) (T : Bi mg) (R : Ranks K w mg d0) (G1 : Has P w K mg base CX0 2 "is_row_of" ["thing", "many"] (spIsRowOf K))
    (G2 : Has P w K mg base CX0 2 "is_integer" ["thing"] (spIsInt K)) (G3 : Has P w K mg base CX0 2 "is_name" ["thing"] (spIsName K)) : FnOk P w K mg base CX0 3 f fd ["thing"] (spReadUnk K) := by
  refine F.ok scReadUnk (fun vs H Q E h => ?_) (fun cdv A outer s H vs Q E hr h => ?_)
  · obtain ⟨v, d, rfl, _⟩ := h
    rfl
  · obtain ⟨v, d, rfl, th, nl, sh, q⟩ := h
    obtain ⟨es, n, kd⟩ := R.kd
    refine ⟨_, (pss_cons (ps_if (pt_not (pt_val (pe_callH G1 hr (by rfl) pass0 (pa_cons (pv 0) (pa_cons pe_int pa_nil))))) (pss_one (ps_ret pe_non)) pss_nil)
      (pss_cons (ps_asg (pv 0) (pg_tup rfl (pgs_cons (pg_name (i := 1) scReadUnk.nd rfl (.inl rfl)) (pgs_cons (pg_name (i := 2) scReadUnk.nd rfl (.inl rfl)) pgs_nil))))
      (pss_cons (ps_if (PW.pt (pw_or (pt_not (pt_val (pe_callB call_isi (by rfl) T.isinstance (by decide +kernel) (pa_cons (pv 1) (pa_cons (pe_bltn (v := .ty "str") (by rfl) T.str (by decide +kernel) rfl) pa_nil))))) (pw_or1 (pt_cmpR (op_notIn_kd kd) (pv 1) (pe_glob (v := .ref d0) rfl R.g rfl) (by rfl))))) (pss_one (ps_ret pe_non)) pss_nil)
      (pss_cons (ps_if (pt_cmpR op_eq (pv 1) pe_str (nomark _)) (pss_one (ps_set (i := 3) scReadUnk.nd rfl (.inl rfl) (pe_and (pe_callH G2 hr (by rfl) pass0 (pa_cons (pv 2) pa_nil)) (pe_one (pe_cmpR op_ge (pv 2) pe_int (nomark _)))))) (pss_one (ps_set (i := 3) scReadUnk.nd rfl (.inl rfl) (pe_callH G3 hr (by rfl) pass0 (pa_cons (pv 2) pa_nil)))))
      (pss_one (ps_ret (pe_ifExp (pt_val (pv 3)) (pe_tup (pa_cons (pv 1) (pa_cons (pv 2) pa_nil))) pe_non))))))), ?_⟩
    refine ⟨_, rfl, v, d, 2, rfl, th, fun H1 sm1 => ⟨_, rfl, ?_⟩⟩
    have th1 := th_same sm1 th
    cases e : isRof d 2 with
    | false =>
      refine iteT ?_
      refine q _ _ sm1 ?_
      have z : readUnk d = none := by
        unfold readUnk
        split
        · rename_i k o
          revert e
          simp [isRof, items]
        · rfl
      rw [z]
      rfl
    | true =>
      refine iteF ?_
      obtain ⟨x, y, rfl⟩ : ∃ x y, d = .tuple [x, y] := by
        unfold isRof at e
        cases d with
        | tuple xs =>
          have e' : ((xs.length : Int) = 2) := of_decide_eq_true e
          match xs, e' with
          | [x, y], _ => exact ⟨x, y, rfl⟩
          | [], z => exact absurd z (by decide)
          | [_], z => exact absurd z (by simp)
          | _ :: _ :: _ :: _, z => simp at z; omega
        | list xs => exact absurd rfl (nl xs)
        | none => cases e
        | bool b => cases e
        | int i => cases e
        | str s => cases e
        | dict k => cases e
      obtain ⟨a, xs, rfl, hs, ha⟩ := th_tup th1
      cases ha with
      | cons h1 h2 =>
      cases h2 with
      | cons h2 h3 =>
      cases h3
      rename_i v1 v2
      refine ⟨_, rfl, a, _, rfl, hs, rfl, v1, _, rfl, v2, _, rfl, rfl, ?_⟩
      refine ⟨_, rfl, v1, _, _, _, _, rfl, .ty "str", th_ty (.dat h1), kit_str x, _, rfl, ?_⟩
      cases x with
      | str k =>
        cases h1
        refine iteF ?_
        cases e2 : rank k with
        | none =>
          refine ⟨_, rfl, k, _, rfl, rfl, R.no k e2, _, rfl, iteT ?_⟩
          refine q _ _ sm1 ?_
          have z : readUnk (.tuple [.str k, y]) = none := by
            show unkOf k y = none
            unfold unkOf
            rw [e2]
            rfl
          rw [z]
          rfl
        | some i =>
          obtain ⟨t, ht⟩ := R.has k i e2
          refine ⟨_, rfl, k, _, rfl, rfl, ht, _, rfl, iteF ?_⟩
          have ez : readUnk (.tuple [.str k, y]) = (ofKey k y).map fun z => [.inr k, z] := by
            show unkOf k y = _
            unfold unkOf
            rw [e2]
            rfl
          rw [ez] at q
          have fin : ∀ (b : Bool) (H2 : Hp), Same H1 H2 → (b = true → ∃ z, v2 = kV z ∧ ofKey k y = some z) → (b = false → ofKey k y = none) →
              tRet (tIf (tB (tVar 3)) (tTup (tCons (tVar 1) (tCons (tVar 2) tNil))) (tC .non)) { nx := fun _ H' => Q .non H', rt := Q } [some (.ref a), some (.str k), some v2, some (.bl b)] H2 := by
            intro b H2 sm2 ht hf
            refine ⟨_, rfl, _, rfl, ?_⟩
            cases b with
            | true =>
              obtain ⟨z, rfl, ez⟩ := ht rfl
              refine iteT ⟨_, rfl, _, rfl, (by show 2 ≤ sizeLine; decide), fun p hp => ?_⟩
              refine q _ _ ((sm1.trans sm2).trans (same_new hp)) ?_
              rw [ez]
              exact ⟨p, rfl, upd_same⟩
            | false =>
              refine iteF ?_
              refine q _ _ (sm1.trans sm2) ?_
              rw [hf rfl]
              rfl
          refine ⟨_, rfl, rfl, _, rfl, ?_⟩
          rw [show decide (V.str k = V.str (Str.ofString "in")) = decide (k = sIn) from eq_str _ _]
          refine ite2 (fun c => ?_) (fun c => ?_)
          · have ck : k = sIn := of_decide_eq_true c
            refine ⟨_, rfl, v2, y, rfl, .dat h2, _, rfl, ?_⟩
            cases y with
            | int j =>
              cases h2
              refine iteT ⟨_, rfl, j, 1, rfl, rfl, ?_⟩
              refine fin _ _ (Same.refl _) (fun hb => ⟨.inl j, rfl, ?_⟩) fun hb => ?_
              · unfold ofKey
                rw [if_pos ck]
                exact if_pos (of_decide_eq_true hb)
              · unfold ofKey
                rw [if_pos ck]
                exact if_neg (of_decide_eq_false hb)
            | _ =>
              refine iteF (fin _ _ (Same.refl _) (fun hb => by cases hb) fun _ => ?_)
              unfold ofKey
              rw [if_pos ck]
          · have ck : ¬ k = sIn := fun z => c (decide_eq_true z)
            refine ⟨_, rfl, v2, y, rfl, .dat h2, sh.2, fun H2 sm2 => ?_⟩
            refine fin _ _ sm2 (fun hb => ?_) fun hb => ?_
            · cases y with
              | str s =>
                cases h2
                refine ⟨.inr s, rfl, ?_⟩
                unfold ofKey
                rw [if_neg ck]
                exact if_pos hb
              | _ => cases hb
            · cases y with
              | str s =>
                unfold ofKey
                rw [if_neg ck]
                exact if_neg (by intro z; rw [show isNm (.str s) = isNmS s from rfl, z] at hb; cases hb)
              | _ =>
                unfold ofKey
                rw [if_neg ck]
      | _ => exact iteT (q _ _ sm1 rfl)
end

abbrev sOrderOf : Stmt := topS 13
theorem body_order : ∃ p1 p2 p3 p4 p5 p6 p7 p8 p9 p10 p11 k1 k2 k3, defBody sOrderOf = [.Return (some (.Tuple [.Subscript (.Name "RANKS" p1) (.Subscript (.Name "unknown" p2) (.Constant (.int 0) k1 p3) p4) p5, .Subscript (.Name "unknown" p6) (.Constant (.int 1) k2 p7) p8] k3 p9)) p10] ∧ p11 = p10 := ⟨_, _, _, _, _, _, _, _, _, _, _, _, _, _, rfl, rfl⟩
/-- what an unknown is to the sort -/
def keyD (u : List Key) : PyData := match u with
  | [.inr k, .inr s] => .tuple [.int ((rank k).getD 0), .str s]
  | [.inr k, .inl i] => .tuple [.int ((rank k).getD 0), .int i]
  | _ => .none
/-- the value of an unknown at a -/
def UnkH (h : Heap) (v : Value) (u : List Key) : Prop := ∃ a k o v1 v2, v = .ref a ∧ u = [.inr k, o] ∧ (rank k).isSome = true ∧ IsTup h a #[v1, v2] ∧ RelV (.str k) v1 ∧ RelV (kV o) v2
section
variable {P : Program} {w : World} {A : Around} {E : Value → Shared → Prop} {s : Shared} {K : PySem.W.Frag} {mg : Str → Option Value}
theorem order_pure {f d0 : Addr} {fd : FuncData} (F : Fun K "order_of" "order_of" sOrderOf f fd) (R : Ranks K w mg d0) (X : K.In s.heap) (G : s.heap.Ns mainGlobals mg) (hlim : s.heap.NoLimit) (hroom : A.depth < recursionLimit)
    {v : Value} {u : List Key} (hu : UnkH s.heap v u) : wpAny (model P w) A (call (.ref f) [v]) (PySem.W.KeyPure (keyD u) s) E s := by
  obtain ⟨oc, od, kV', doc, pm, an, cdv, ct, osl, rfl, lk, hcd⟩ := F.ex
  obtain ⟨a, k, o, v1, v2, rfl, rfl, hk, ht, r1, r2⟩ := hu
  obtain ⟨es, n, kd⟩ := R.kd
  obtain ⟨t1, rfl⟩ := r1
  obtain ⟨i, hi⟩ := Option.isSome_iff_exists.mp hk
  obtain ⟨t2, hns⟩ := R.has k i hi
  refine wpAny_call (Att.call_fn (binds := [("unknown", .ref a)]) X hlim lk hcd hroom (.of_eq rfl) (by first | rfl | decide | with_unfolding_all rfl) (fun s₁ IC => ?_) rfl rfl rfl)
  obtain ⟨h₁, tk₁, rfl⟩ := IC.toInCall.same
  have kp : ∀ b o, s.heap.get? b = some o → h₁.get? b = some o := IC.toInCall.keep
  have hn := IC.toInCall.ns
  have X₁ : K.In h₁ := X.keeps kp
  obtain ⟨p1, p2, p3, p4, p5, p6, p7, p8, p9, p10, p11, k1, k2, k3, hb, _⟩ := body_order
  rw [hb]
  refine wpAny_execs_cons (wpAny_Return_some (wpAny_Tuple_spliced ?_))
  have ld : ∀ {Q : Value → Shared → Prop} {E' : Value → Shared → Prop} {s' : Shared} {pos : Pos}, s'.heap.Ns s.heap.objs.size (bindL (envOfC "order_of" (defScope sOrderOf) s.heap.objs.size f cdv).kindOf [("unknown", .ref a)] fun _ => none) → Q (.ref a) s' →
      wpAny (model P w) (A.deeper (envOfC "order_of" (defScope sOrderOf) s.heap.objs.size f cdv)) (eval (.Name "unknown" pos) (envOfC "order_of" (defScope sOrderOf) s.heap.objs.size f cdv)) Q E' s' := fun hn h => wpAny_Name (wpAny_loadName_local rfl rfl hn (by first | rfl | with_unfolding_all rfl) h) (by decide)
  have lg : ∀ {Q : Value → Shared → Prop} {E' : Value → Shared → Prop} {s' : Shared} {pos : Pos}, s'.heap.Ns mainGlobals mg → Q (.ref d0) s' →
      wpAny (model P w) (A.deeper (envOfC "order_of" (defScope sOrderOf) s.heap.objs.size f cdv)) (eval (.Name "RANKS" pos) (envOfC "order_of" (defScope sOrderOf) s.heap.objs.size f cdv)) Q E' s' := fun hn h => Calls.Name_function_global rfl rfl (Calls.loadGlobal_global hn R.g h) (by decide)
  have G₁ : h₁.Ns mainGlobals mg := G.keeps kp
  have T₁ : IsTup h₁ a #[.str k t1, v2] := by
    obtain ⟨ot, g1, g2, g3, g4⟩ := ht
    exact ⟨ot, kp _ _ g1, g2, g3, g4⟩
  refine Calls.spliced_cons (PyProof.Rows.Subscript_ (lg G₁ (PyProof.Rows.Subscript_ (ld hn (wpAny_Constant_int (PyProof.Rows.item_tuple (j := 0) (x := .str k t1) T₁ (by decide) (by decide) rfl rfl ?_))))))
  have hm := PySem.W.mapOf_K (prog := P) (w := w) (h := h₁) X₁ kd.at_ kd.lit
  refine tail_any hm.typeIs slot_dict_getitem.lookup (wpAny_getItem_of (strKind_is P w k t1) hm (PySem.W.find_K kd.at_ hns) ?_) (by with_unfolding_all rfl)
  refine Calls.spliced_cons (PyProof.Rows.Subscript_ (ld hn (wpAny_Constant_int (PyProof.Rows.item_tuple (j := 1) (x := v2) T₁ (by decide) (by decide) rfl rfl ?_))))
  refine Calls.spliced_nil ⟨by show 2 ≤ sizeLine; decide, ?_⟩
  have push : ∀ b o, s.heap.get? b = some o → (h₁.push { cls := .type "tuple", data := .seq ([Value.int i t2, v2] : List Value).toArray }).get? b = some o := fun b o e => Heap.get?_push_of_some _ (kp b o e)
  have rd : ∀ (d : PyData), Reads (h₁.push { cls := .type "tuple", data := .seq ([Value.int i t2, v2] : List Value).toArray }) v2 d [] → Reads (h₁.push { cls := .type "tuple", data := .seq ([Value.int i t2, v2] : List Value).toArray }) (.ref h₁.objs.size) (.tuple [.int i, d]) [] := fun d hd =>
    .tuple (as := [] ++ ([] ++ [])) (Heap.get?_push_size _ rfl) rfl rfl (.cons (.int i t2) (.cons hd .nil))
  refine ⟨_, _, rfl, push, ?_⟩
  cases o with
  | inl j =>
    obtain ⟨t, rfl⟩ := r2
    show Reads _ _ (.tuple [.int ((rank k).getD 0), .int j]) []
    rw [hi]
    exact rd _ (.int j t)
  | inr z =>
    obtain ⟨t, rfl⟩ := r2
    show Reads _ _ (.tuple [.int ((rank k).getD 0), .str z]) []
    rw [hi]
    exact rd _ (.str z t)
end

/-- an unknown whose name is a text -/
def NmU (u : List Key) : Prop := ∃ k z, u = [.inr k, .inr z] ∧ (rank k).isSome = true
/-- an unknown at a value -/
def UnkAt (H : Hp) (y : V) (u : List Key) : Prop := ∃ a, y = .ref a ∧ H a = some (.tup (u.map kV))
def le2 : List Key → List Key → Bool := PySem.W.dataLe false keyD
theorem keyD_nm {u : List Key} (h : NmU u) : ∃ i z, keyD u = .tuple [.int i, .str z] := by
  obtain ⟨k, z, rfl, hk⟩ := h
  exact ⟨_, z, rfl⟩
theorem alike_nm {us : List (List Key)} (h : ∀ u ∈ us, NmU u) : PySem.W.AllAlike (us.map keyD) := by
  intro d hd d' hd'
  obtain ⟨u, hu, rfl⟩ := List.mem_map.mp hd
  obtain ⟨u', hu', rfl⟩ := List.mem_map.mp hd'
  obtain ⟨i, z, e⟩ := keyD_nm (h u hu)
  obtain ⟨i', z', e'⟩ := keyD_nm (h u' hu')
  rw [e, e']
  rfl
theorem sortable_nm {us : List (List Key)} (h : ∀ u ∈ us, NmU u) : PySem.W.Sortable (us.map keyD) := .inl fun d hd => by
  obtain ⟨u, hu, rfl⟩ := List.mem_map.mp hd
  obtain ⟨i, z, e⟩ := keyD_nm (h u hu)
  exact ⟨_, _, e⟩
/-- sorted(xs, key=order_of), the items unknowns by names -/
def rSortedUnk (K : PySem.W.Frag) (f : Addr) : List V → List V → Hp → VK → Prop := fun vs zs H Q => ∃ (a : Addr) (xs : List V) (us : List (List Key)), vs = [.ref a] ∧ zs = [.ref f] ∧ SqL K H a xs ∧ PySem.W.EachIs (UnkAt H) xs us ∧ (∀ u ∈ us, NmU u) ∧
  ∀ (ys : List V) (p : Addr), PySem.W.EachIs (UnkAt H) ys (us.mergeSort le2) → H p = none → Q (.ref p) (upd H p (.lst ys))
theorem unkH_of {X : Cx} {pins : List (Addr × Obj)} {σ : L2.St} {H : Hp} {s : Shared} (I : Inv X pins σ H s) {y : V} {v : Value} {u : List Key} (r : L2.RelV y v) (h : UnkAt H y u) (n : NmU u) : UnkH s.heap v u := by
  obtain ⟨a, rfl, ha⟩ := h
  obtain ⟨k, z, rfl, hk⟩ := n
  cases r
  obtain ⟨_, its, rv, o, h1, h2, m, h3⟩ := (show ObjOk X.prog X.w H s.heap a (.tup [V.str k, V.str z]) from I.hok a _ ha)
  cases rv with
  | cons r1 rv => cases rv with
    | cons r2 rv =>
      cases rv
      rename_i w1 w2
      exact ⟨a, k, .inr z, w1, w2, rfl, rfl, hk, ⟨o, h1, h2, m, h3⟩, r1, r2⟩
theorem unkH_keeps {h h' : Heap} {v : Value} {u : List Key} (k : ∀ b o, h.get? b = some o → h'.get? b = some o) (x : UnkH h v u) : UnkH h' v u := by
  obtain ⟨a, k1, o, v1, v2, e1, e2, hk, ⟨ot, g1, g2, g3⟩, r1, r2⟩ := x
  exact ⟨a, k1, o, v1, v2, e1, e2, hk, ⟨ot, k _ _ g1, g2, g3⟩, r1, r2⟩
theorem each_vals {H : Hp} : ∀ {xs : List V} {its : List Value} {us : List (List Key)}, PySem.W.EachIs (UnkAt H) xs us → Vals xs its → PySem.W.EachIs (fun v u => ∃ y, L2.RelV y v ∧ UnkAt H y u) its us
  | _, _, _, .nil, .nil => .nil
  | _, _, _, .cons h t, .cons r rt => .cons ⟨_, r, h⟩ (each_vals t rt)
theorem each_back {H : Hp} : ∀ {its : List Value} {us : List (List Key)}, PySem.W.EachIs (fun v u => ∃ y, L2.RelV y v ∧ UnkAt H y u) its us → ∃ ys, Vals ys its ∧ PySem.W.EachIs (UnkAt H) ys us
  | _, _, .nil => ⟨[], .nil, .nil⟩
  | _, _, .cons ⟨y, r, h⟩ t => by
    obtain ⟨ys, r1, h1⟩ := each_back t
    exact ⟨y :: ys, .cons r r1, .cons h h1⟩
theorem cr_sortedUnk {X : Cx} {k : Nat} {f d0 : Addr} {fd : FuncData} (hr : Room k X.A) (F : Fun X.K "order_of" "order_of" sOrderOf f fd) (R : Ranks X.K X.w X.mg d0) : CallRK X (.builtin "sorted") [Str.ofString "key"] (rSortedUnk X.K f) := by
  intro pins s σ H vs zs us' ws Q I r rz h
  obtain ⟨a, xs, us, rfl, rfl, hs, he, hn, q⟩ := h
  obtain rfl := Vals.ref1 r
  obtain ⟨w1, rfl, e1⟩ := vals1 rz
  obtain rfl : w1 = Value.ref f := e1
  obtain ⟨its, rv, hl, hz⟩ := I.list hs
  have hu := each_vals he rv
  have hlen : us.length ≤ sizeLine := by
    rw [← he.length]
    exact hz
  refine PySem.W.sorted_key_data (bs := us) (R := fun v u => ∃ y, L2.RelV y v ∧ UnkAt H y u) (b := false) (f := .ref f) keyD hl.isList hu (alike_nm hn) (sortable_nm hn) hlen (fun u hu => ?_) (ksk_s1 _ _) (fun _ => ksk_l1 _ _) (fun x => ksk_t1 f x) (fun v u hR hu h tk kp => ?_) fun out c h' tk kp hf hg hol ho => ?_
  · obtain ⟨i, z, e⟩ := keyD_nm (hn u hu)
    have hd : (keyD u).depth ≤ 5 := by
      rw [e]
      simp [PyData.depth, PyData.depthAll]
    have := hr.units
    omega
  · obtain ⟨y, ry, hy⟩ := hR
    have hd : X.A.in1.in1.depth < recursionLimit := hr.depth
    exact order_pure (s := { s with heap := h, toks := tk }) F R (I.kIn.keeps kp) ((I.mod.glob.keeps I.bk).keeps kp) (I.nolimit.keeps kp) hd (unkH_keeps kp (unkH_of I ry hy (hn u hu)))
  · obtain ⟨ys, rv', hy⟩ := each_back ho
    have hlen' : ys.length ≤ sizeLine := by
      rw [rv'.length, hol]
      exact hlen
    exact ⟨.ref (s.heap.objs.size + 1), upd H (s.heap.objs.size + 1) (.lst ys), I.laid (t' := tk) kp (Nat.le_succ _) ⟨hlen', out, c, rv', hg⟩, rfl, q ys _ hy (I.hok.fresh (Nat.le_succ _))⟩

/-! ### sums -/
def keyDat : Key → PyData
  | .inl i => .int i
  | .inr s => .str s
def unkD (u : List Key) : PyData := .tuple (u.map keyDat)
def partD (p : List Key × Int) : PyData := .tuple [unkD p.1, .int p.2]
def sumD (n : Int) (ps : List (List Key × Int)) : PyData := .tuple [.int n, .tuple (ps.map partD)]
abbrev Mul := List (List Key × Int)
def vKv (kvs : Mul) : List (List Key × V) := kvs.map fun p => (p.1, V.int p.2)
def getI (kvs : Mul) (u : List Key) : Int := ((kvs.find? fun kv => decide (kv.1 = u)).map (·.2)).getD 0
def keysN (kvs : Mul) : List (List Key) := (kvs.map (·.1)).filter fun u => !decide (getI kvs u = 0)
def form (kvs : Mul) : Mul := ((keysN kvs).mergeSort le2).map fun u => (u, getI kvs u)
theorem valV_kv (kvs : Mul) (u : List Key) : valV (vKv kvs) u = (kvs.find? fun kv => decide (kv.1 = u)).map fun kv => V.int kv.2 := by
  unfold valV vKv
  rw [List.find?_map]
  simp [Function.comp_def]
theorem valV_mem {kvs : Mul} {u : List Key} (h : u ∈ kvs.map (·.1)) : valV (vKv kvs) u = some (.int (getI kvs u)) := by
  rw [valV_kv]
  unfold getI
  cases e : kvs.find? fun kv => decide (kv.1 = u) with
  | some p => rfl
  | none =>
    obtain ⟨p, hp, rfl⟩ := List.mem_map.mp h
    have z := List.find?_eq_none.mp e p hp
    simp at z
theorem dp_key {K : PySem.W.Frag} {H : Hp} (k : Key) : Dp K H (kV k) (keyDat k) := by
  cases k with
  | inl i => exact .int i
  | inr s => exact .str s
theorem dps_keys {K : PySem.W.Frag} {H : Hp} : ∀ u : List Key, DpAll K H (u.map kV) (u.map keyDat)
  | [] => .nil
  | k :: u => .cons (dp_key k) (dps_keys u)
theorem dp_unk {K : PySem.W.Frag} {H : Hp} {y : V} {u : List Key} (h : UnkAt H y u) : Dp K H y (unkD u) := by
  obtain ⟨a, rfl, ha⟩ := h
  exact .tup (SqT.of ha) (dps_keys u)
theorem unkAt_same {H H' : Hp} (e : Same H H') {y : V} {u : List Key} (h : UnkAt H y u) : UnkAt H' y u := by
  obtain ⟨a, rfl, ha⟩ := h
  exact ⟨a, rfl, e _ _ ha⟩
theorem each_same {H H' : Hp} (e : Same H H') : ∀ {ys : List V} {us : List (List Key)}, PySem.W.EachIs (UnkAt H) ys us → PySem.W.EachIs (UnkAt H') ys us
  | _, _, .nil => .nil
  | _, _, .cons h t => .cons (unkAt_same e h) (each_same e t)
theorem each_get {H : Hp} : ∀ {ys : List V} {us : List (List Key)}, PySem.W.EachIs (UnkAt H) ys us → ∀ {i : Nat} {y : V}, ys[i]? = some y → ∃ u, us[i]? = some u ∧ UnkAt H y u
  | _, _, .nil, i, y, h => by simp at h
  | _, _, .cons h t, 0, y, e => by
    obtain rfl : _ = y := Option.some.inj e
    exact ⟨_, rfl, h⟩
  | _, _, .cons h t, i + 1, y, e => each_get t (i := i) e
theorem each_snoc {H : Hp} {y : V} {u : List Key} (h : UnkAt H y u) : ∀ {ys : List V} {us : List (List Key)}, PySem.W.EachIs (UnkAt H) ys us → PySem.W.EachIs (UnkAt H) (ys ++ [y]) (us ++ [u])
  | _, _, .nil => .cons h .nil
  | _, _, .cons g t => .cons g (each_snoc h t)
theorem dps_snoc {K : PySem.W.Frag} {H : Hp} {y : V} {d : PyData} (h : Dp K H y d) : ∀ {ys : List V} {ds : List PyData}, DpAll K H ys ds → DpAll K H (ys ++ [y]) (ds ++ [d])
  | _, _, .nil => .cons h .nil
  | _, _, .cons g t => .cons g (dps_snoc h t)
def spOneForm (K : PySem.W.Frag) : Sp := fun vs H Q _ => ∃ (n : Int) (d : Addr) (kvs : Mul), vs = [.int n, .ref d] ∧ H d = some (.dT (vKv kvs)) ∧ (∀ u ∈ kvs.map (·.1), NmU u) ∧ kvs.length ≤ 1000 ∧
  ∀ v H', Same H H' → Dp K H' v (sumD n (form kvs)) → Q v H'
/-- a heap without the object at D -/
def wo (H : Hp) (D : Addr) : Hp := fun b => if b = D then none else H b
theorem wo_ne {H : Hp} {D b : Addr} (h : b ≠ D) : wo H D b = H b := if_neg h
theorem wo_same {H : Hp} {D : Addr} : Same (wo H D) H := fun b o e => by
  by_cases h : b = D
  · rw [h] at e
    unfold wo at e
    rw [if_pos rfl] at e
    cases e
  · rw [wo_ne h] at e
    exact e
theorem wo_self {H : Hp} {D : Addr} {o : HO} : wo (upd H D o) D = wo H D := by
  funext b
  by_cases h : b = D
  · unfold wo
    rw [if_pos h, if_pos h]
  · rw [wo_ne h, wo_ne h, upd_ne h]
theorem wo_new {H : Hp} {D T : Addr} {o : HO} (hT : H T = none) (h : T ≠ D) : Same (wo H D) (wo (upd H T o) D) := fun b x e => by
  have e2 : H b = some x := wo_same b x e
  have hb : b ≠ D := fun z => by
    rw [z] at e
    unfold wo at e
    rw [if_pos rfl] at e
    cases e
  rw [wo_ne hb, upd_ne (ne_of_none e2 hT)]
  exact e2
abbrev sOneForm : Stmt := topS 14
theorem scOneForm : FnScope ["number", "multiples", "held", "unknown"] ["number", "multiples"] (defScope sOneForm) := ⟨rfl, rfl, rfl, by decide +kernel, rfl, by decide +kernel, by decide +kernel⟩
theorem sz1000 {n : Nat} (h : n ≤ 1000) : n ≤ sizeLine := Nat.le_of_lt (small1000 h)
theorem unkAt_upd {H : Hp} {D : Addr} {l : List V} {o : HO} (hD : H D = some (.lst l)) {y : V} {u : List Key} (h : UnkAt H y u) : UnkAt (upd H D o) y u := by
  obtain ⟨a, rfl, ha⟩ := h
  refine ⟨a, rfl, ?_⟩
  rw [upd_ne (ne_of ha hD (by intro z; cases z))]
  exact ha
theorem each_upd {H : Hp} {D : Addr} {l : List V} {o : HO} (hD : H D = some (.lst l)) : ∀ {ys : List V} {us : List (List Key)}, PySem.W.EachIs (UnkAt H) ys us → PySem.W.EachIs (UnkAt (upd H D o)) ys us
  | _, _, .nil => .nil
  | _, _, .cons h t => .cons (unkAt_upd hD h) (each_upd hD t)
theorem each_len {H : Hp} {ys : List V} {us : List (List Key)} (h : PySem.W.EachIs (UnkAt H) ys us) : ys.length = us.length := h.length
theorem mem_sort {us : List (List Key)} {u : List Key} (h : u ∈ us.mergeSort le2) : u ∈ us := (List.mergeSort_perm us le2).mem_iff.mp h
section
variable {P : Program} {w : World} {K : PySem.W.Frag} {mg : Str → Option Value} {base : Heap}
theorem ok_oneForm {f fO d0 : Addr} {fd fdO : FuncData} (F : Fun K "one_form" "one_form" sOneForm f fd) (T : Bi mg) (R : Ranks K w mg d0) (FO : Fun K "order_of" "order_of" sOrderOf fO fdO) (gO : mg "order_of" = some (.ref fO)) :
    FnOk P w K mg base CX0 2 f fd ["number", "multiples"] (spOneForm K) := by
  refine F.ok scOneForm (fun vs H Q E h => ?_) (fun cdv A outer s H vs Q E hr h => ?_)
  · obtain ⟨n, d, kvs, rfl, _⟩ := h
    rfl
  · obtain ⟨n, d, kvs, rfl, hd, hn, hl, q⟩ := h
    have hu := hu_of hr
    refine ⟨_, pss_cons (ps_set (i := 2) scOneForm.nd rfl (.inl rfl) (pe_callBK (cr_sortedUnk hr FO R) (by rfl) T.sorted (by decide +kernel) (pa_cons (pe_lock (pe_lc (own := [("unknown", 3)]) (g := gName 3) (tt := _) rfl scOneForm.nd (pi_keys (pv 1)) (blkOk_by (N := ["number", "multiples", "held", "unknown"]) (sc := defScope sOneForm) (by decide +kernel)) (fun _ _ _ _ _ => pg_name (i := 3) scOneForm.nd rfl (.inl rfl)) (fun _ _ _ _ _ => pts_one (pt_cmpR op_ne (pe_dget hu (pv 1) (pv 3) (fun _ _ => rfl)) pe_int (nomark _))) (fun _ _ _ _ _ => (pv 3)))) pa_nil) (pk_cons (pe_glob (v := .ref fO) rfl gO rfl) pk_nil)))
      (pss_one (ps_ret (pe_tup (pa_cons (pv 0) (pa_cons (pe_callTy call_tuple_of (by rfl) T.tuple (by decide +kernel) (pa_cons (pe_lc (own := [("unknown", 3)]) (g := gName 3) (tt := tYes) rfl scOneForm.nd (pi_list (pv 2)) (blkOk_by (N := ["number", "multiples", "held", "unknown"]) (sc := defScope sOneForm) (by decide +kernel)) (fun _ _ _ _ _ => pg_name (i := 3) scOneForm.nd rfl (.inl rfl)) (fun _ _ _ _ _ => pts_nil) (fun _ _ _ _ _ => (pe_tup (pa_cons (pv 3) (pa_cons (pe_dget hu (pv 1) (pv 3) (fun _ _ => rfl)) pa_nil))))) pa_nil)) pa_nil))))), ?_⟩
    refine ⟨d, _, hd, trivial, fun od => ⟨_, rfl, d, od, rfl, .inr ⟨_, upd_same, fun D hD => ?_⟩⟩⟩
    have lenK : (vKv kvs).length = kvs.length := List.length_map _
    have hDd : D ≠ d := by
      intro z
      rw [z, upd_same] at hD
      cases hD
    have hDn : H D = none := by
      rw [upd_ne hDd] at hD
      exact hD
    refine lc_it walk_keysT (fun i H1 => (∀ b o, b ≠ D → upd H d (.frz od (.dT (vKv kvs))) b = some o → H1 b = some o) ∧ ∃ ys, H1 D = some (.lst ys) ∧ ys.length ≤ i ∧ PySem.W.EachIs (UnkAt H1) ys (((kvs.take i).map (·.1)).filter fun u => !decide (getI kvs u = 0)))
      ⟨fun b o hb e => by rw [upd_ne hb]; exact e, [], upd_same, Nat.le_refl _, .nil⟩ (fun i H1 _ ⟨kp, _⟩ => kp _ _ hDd.symm upd_same) ?_ ?_
    · rintro i x H1 H1' hi ⟨kp, ys, hD1, hlen, he⟩ ⟨rfl, k, v, qa, hk, rfl, hq⟩
      have hi' : i < kvs.length := by rw [lenK] at hi; exact hi
      obtain ⟨⟨k0, m⟩, hm⟩ : ∃ p, kvs[i]? = some p := ⟨kvs[i], List.getElem?_eq_getElem hi'⟩
      have hk2 : (k, v) = (k0, V.int m) := by
        unfold vKv at hk
        rw [List.getElem?_map, hm] at hk
        exact (Option.some.inj hk).symm
      cases hk2
      have hmem : k ∈ kvs.map (·.1) := List.mem_map.mpr ⟨_, List.mem_of_getElem? hm, rfl⟩
      have hd1 : H1' d = some (.frz od (.dT (vKv kvs))) := kp _ _ hDd.symm upd_same
      have qD : qa ≠ D := ne_of hq hD1 (by intro z; cases z)
      have hqH : UnkAt H1' (.ref qa) k := ⟨qa, rfl, hq⟩
      refine ⟨rfl, _, rfl, _, rfl, d, .int (getI kvs k), rfl, .inr ⟨vKv kvs, k, qa, .inr ⟨od, hd1⟩, rfl, hq, (valV_mem hmem).symm⟩, rfl, _, rfl, ?_⟩
      rw [eq_int]
      have tk : (kvs.take (i + 1)).map (·.1) = (kvs.take i).map (·.1) ++ [k] := by
        rw [List.take_add_one, hm]
        simp
      cases c : !decide (getI kvs k = 0) with
      | true =>
        refine iteT ⟨_, rfl, ys, hD1, small1000 (by omega), fun b o hb e => ?_, ys ++ [.ref qa], upd_same, by simp; omega, ?_⟩
        · rw [upd_ne hb]
          exact kp b o hb e
        · rw [tk, List.filter_append]
          have z : [k].filter (fun u => !decide (getI kvs u = 0)) = [k] := by simp [List.filter, c]
          rw [z]
          exact each_snoc (unkAt_upd hD1 hqH) (each_upd hD1 he)
      | false =>
        refine iteF ⟨kp, ys, hD1, by omega, ?_⟩
        rw [tk, List.filter_append]
        have z : [k].filter (fun u => !decide (getI kvs u = 0)) = [] := by simp [List.filter, c]
        rw [z, List.append_nil]
        exact he
    · rintro H1 ⟨kp, ys, hD1, hlen, he⟩
      have tl : (kvs.take (vKv kvs).length) = kvs := by rw [lenK]; exact List.take_length
      rw [tl] at he
      have hd1 : H1 d = some (.frz od (.dT (vKv kvs))) := kp _ _ hDd.symm upd_same
      have sm : Same H (upd H1 d (.dT (vKv kvs))) := fun b o e => by
        by_cases hb : b = d
        · rw [hb] at e ⊢
          rw [upd_same]
          exact hd.symm.trans e
        · rw [upd_ne hb]
          refine kp b o (ne_of_none e hDn) ?_
          rw [upd_ne hb]
          exact e
      have eD : (upd H1 d (.dT (vKv kvs))) D = some (.lst ys) := by
        rw [upd_ne hDd]
        exact hD1
      have he2 : PySem.W.EachIs (UnkAt (upd H1 d (.dT (vKv kvs)))) ys (keysN kvs) := by
        have go : ∀ {zs : List V} {us : List (List Key)}, PySem.W.EachIs (UnkAt H1) zs us → PySem.W.EachIs (UnkAt (upd H1 d (.dT (vKv kvs)))) zs us := by
          intro zs us h
          induction h with
          | nil => exact .nil
          | cons h t ih =>
            obtain ⟨a, rfl, ha⟩ := h
            refine .cons ⟨a, rfl, ?_⟩ ih
            rw [upd_ne (ne_of ha hd1 (by intro z; cases z))]
            exact ha
        exact go he
      have hnK : ∀ u ∈ keysN kvs, NmU u := fun u hu => hn u (List.mem_filter.mp hu).1
      refine ⟨hd1, D, ys, keysN kvs, rfl, rfl, SqL.of eD, he2, hnK, fun zs p hz hp => ?_⟩
      generalize hH2 : upd H1 d (.dT (vKv kvs)) = H2 at sm eD he2 hp hz ⊢
      have h2d : H2 d = some (.dT (vKv kvs)) := by rw [← hH2, upd_same]
      have sm3 : Same H2 (upd H2 p (.lst zs)) := same_new hp
      have hz3 : PySem.W.EachIs (UnkAt (upd H2 p (.lst zs))) zs ((keysN kvs).mergeSort le2) := each_same sm3 hz
      have lz : zs.length = ((keysN kvs).mergeSort le2).length := hz.length
      have lz2 : zs.length ≤ 1000 := by
        rw [lz, (List.mergeSort_perm _ _).length_eq]
        unfold keysN
        refine Nat.le_trans (List.length_filter_le _ _) ?_
        rw [List.length_map]
        exact hl
      generalize hH3 : upd H2 p (.lst zs) = H3 at sm3 hz3 ⊢
      have h3d : H3 d = some (.dT (vKv kvs)) := sm3 _ _ h2d
      have h3p : H3 p = some (.lst zs) := by rw [← hH3, upd_same]
      refine ⟨_, rfl, _, rfl, p, rfl, ⟨_, SqL.of h3p⟩, fun D2 hD2 => ?_⟩
      have pD2 : p ≠ D2 := ne_of_none h3p hD2
      refine lc_it (walk_list (xs := zs)) (fun i H4 => (∀ b o, b ≠ D2 → H3 b = some o → H4 b = some o) ∧ ∃ ps, H4 D2 = some (.lst ps) ∧ ps.length = i ∧ DpAll K (wo H4 D2) ps ((((keysN kvs).mergeSort le2).take i).map fun u => partD (u, getI kvs u)))
        ⟨fun b o hb e => by rw [upd_ne hb]; exact e, [], upd_same, rfl, .nil⟩ (fun i H4 _ ⟨kp, _⟩ => SqL.of (kp _ _ pD2 h3p)) ?_ ?_
      · rintro i x H4 H4' hi ⟨kp4, ps, h4D, hps, hdp⟩ ⟨rfl, hx⟩
        obtain ⟨u, hu1, a, rfl, ha⟩ := each_get hz3 hx
        have haD : a ≠ D2 := ne_of_none ha hD2
        have ha4 := kp4 _ _ haD ha
        have h4d := kp4 _ _ (ne_of_none h3d hD2) h3d
        have hmem : u ∈ kvs.map (·.1) := (List.mem_filter.mp (mem_sort (List.mem_of_getElem? hu1))).1
        refine ⟨rfl, yes_go (iteT ⟨_, rfl, _, rfl, _, rfl, d, .int (getI kvs u), rfl, .inr ⟨vKv kvs, u, a, .inl h4d, rfl, ha4, (valV_mem hmem).symm⟩, (by show 2 ≤ sizeLine; decide), fun t ht => ⟨ps, ?_, small1000 (by omega), ?_, ps ++ [.ref t], upd_same, by simp; omega, ?_⟩⟩)⟩
        · rw [upd_ne (ne_of_none h4D ht)]
          exact h4D
        · intro b o hb e
          rw [upd_ne hb, upd_ne (ne_of_none (kp4 b o hb e) ht)]
          exact kp4 b o hb e
        · have tD : t ≠ D2 := fun z => by rw [z, h4D] at ht; cases ht
          rw [wo_self, List.take_add_one, hu1]
          simp only [Option.toList_some, List.map_append, List.map_cons, List.map_nil]
          refine dps_snoc ?_ (dps_same (wo_new ht tD) hdp)
          have et : wo (upd H4' t (.tup [.ref a, .int (getI kvs u)])) D2 t = some (.tup [.ref a, .int (getI kvs u)]) := by rw [wo_ne tD, upd_same]
          have ea : wo (upd H4' t (.tup [.ref a, .int (getI kvs u)])) D2 a = some (.tup (u.map kV)) := by rw [wo_ne haD, upd_ne (ne_of_none ha4 ht)]; exact ha4
          exact .tup (SqT.of et) (.cons (dp_unk ⟨a, rfl, ea⟩) (.cons (.int _) .nil))
      · rintro H4 ⟨kp4, ps, h4D, hps, hdp⟩
        have tl2 : ((keysN kvs).mergeSort le2).take zs.length = (keysN kvs).mergeSort le2 := by rw [lz]; exact List.take_length
        rw [tl2] at hdp
        refine ⟨D2, ps, rfl, .inl ⟨SqL.of h4D, fun l hl4 => ⟨(by show 2 ≤ sizeLine; decide), fun r hr5 => ?_⟩⟩⟩
        have s4 : Same H3 H4 := fun b o e => kp4 b o (ne_of_none e hD2) e
        have s5 := same_new (o := .tup ps) hl4
        have s6 := same_new (o := .tup [.int n, .ref l]) hr5
        refine q _ _ ((((sm.trans sm3).trans s4).trans s5).trans s6) ?_
        have el : (upd (upd H4 l (.tup ps)) r (.tup [.int n, .ref l])) l = some (.tup ps) := s6 _ _ upd_same
        refine .tup (SqT.of upd_same) (.cons (.int n) (.cons (.tup (SqT.of el) ?_) .nil))
        have e3 : (form kvs).map partD = ((keysN kvs).mergeSort le2).map fun u => partD (u, getI kvs u) := by
          unfold form
          rw [List.map_map]
          rfl
        rw [e3]
        exact dps_same ((wo_same.trans s5).trans s6) hdp
end

/-! ### a for over a list or a tuple -/
def iSeq (K : PySem.W.Frag) (tl : TE) : TI := fun σ H R => tl σ H fun x H1 => ∃ a xs, x = .ref a ∧ (SqL K H1 a xs ∨ SqT K H1 a xs) ∧ ∀ J G, Walk J xs.length G (YAt xs) → (∀ H4, (SqL K H1 a xs → SqL K H4 a xs) → (SqT K H1 a xs → SqT K H4 a xs) → G H4) → R J H1
theorem pi_seq {X : Cx} {tg l : Expr} {tl : TE} (hl : PE X l tl) : PI X tg l (iSeq X.K tl) := by
  refine ⟨fun pins s σ H R I h => ?_⟩
  refine thn (hl.run pins s σ H _ I h) fun v s1 ⟨x, H1, I1, r1, q1⟩ => ?_
  obtain ⟨a, xs, e, hq, q⟩ := q1
  subst e
  cases r1
  have fp : ∀ b ∈ [s1.heap.objs.size], FpOk X pins H1 b := fun b hb => by
    have e : b = s1.heap.objs.size := by simpa using hb
    subst e
    exact I1.fpOk (Nat.le_refl _) (I1.hok.fresh (Nat.le_refl _))
  rcases hq with hq | hq
  · obtain ⟨its, rv, p, hz⟩ := I1.list hq
    refine wpAny_pyIter_list p.isList ?_
    exact ⟨s1.heap.objs.size, [s1.heap.objs.size], _, _, H1, rfl, I1.kept (t' := s1.toks) fun b o e => Heap.get?_push_of_some _ e, turn_list a _, ⟨_, Heap.get?_push_size _ rfl, rfl, rfl⟩, fp, q _ (fun H4 => SqL X.K H4 a xs) walk_list fun H4 e _ => e hq⟩
  · obtain ⟨its, rv, p, hz⟩ := I1.tuple hq
    refine wpAny_pyIter_tuple (show s1.heap.IsTuple a its.toArray from p) ?_
    exact ⟨s1.heap.objs.size, [s1.heap.objs.size], _, _, H1, rfl, I1.kept (t' := s1.toks) fun b o e => Heap.get?_push_of_some _ e, turn_tuple a _, ⟨_, Heap.get?_push_size _ rfl, rfl, rfl⟩, fp, q _ (fun H4 => SqT X.K H4 a xs) walk_tup fun H4 _ e => e hq⟩
/-! ### the mirror of read_sum -/
def putI (kvs : Mul) (u : List Key) (m : Int) : Mul := if (kvs.any fun kv => decide (kv.1 = u)) = true then kvs.map (fun kv => if kv.1 = u then (kv.1, m) else kv) else kvs ++ [(u, m)]
theorem put_vKv (kvs : Mul) (u : List Key) (m : Int) : putK (vKv kvs) u (.int m) = vKv (putI kvs u m) := by
  unfold putK putI vKv
  have e : ((kvs.map fun p => (p.1, V.int p.2)).any fun kv => decide (kv.1 = u)) = kvs.any fun kv => decide (kv.1 = u) := by
    rw [List.any_map]
    rfl
  rw [e]
  split
  · rw [List.map_map, List.map_map]
    apply List.map_congr_left
    intro p _
    by_cases h : p.1 = u
    · simp [h]
    · simp [h]
  · simp
theorem putI_len (kvs : Mul) (u : List Key) (m : Int) : (putI kvs u m).length ≤ kvs.length + 1 := by
  unfold putI
  split
  · rw [List.length_map]; omega
  · simp
theorem putI_keys {kvs : Mul} {u : List Key} {m : Int} (hu : NmU u) (h : ∀ x ∈ kvs.map (·.1), NmU x) : ∀ x ∈ (putI kvs u m).map (·.1), NmU x := by
  intro x hx
  unfold putI at hx
  split at hx
  · rw [List.map_map] at hx
    obtain ⟨p, hp, rfl⟩ := List.mem_map.mp hx
    have e : (Prod.fst ∘ fun kv : List Key × Int => if kv.1 = u then (kv.1, m) else kv) p = p.1 := by
      show (if p.1 = u then (p.1, m) else p).1 = p.1
      split <;> rfl
    rw [e]
    exact h _ (List.mem_map.mpr ⟨p, hp, rfl⟩)
  · rw [List.map_append] at hx
    rcases List.mem_append.mp hx with hx | hx
    · exact h x hx
    · have e : x = u := by simpa using hx
      rw [e]
      exact hu
def addPart (acc : Mul) (p : PyData) : Option Mul := match items p with
  | some [x, .int m] => (readUnk x).map fun u => putI acc u (getI acc u + m)
  | _ => none
def readParts : List PyData → Mul → Option Mul
  | [], acc => some acc
  | p :: r, acc => (addPart acc p).bind (readParts r)
theorem readParts_app : ∀ (ps qs : List PyData) (acc : Mul), readParts (ps ++ qs) acc = (readParts ps acc).bind (readParts qs)
  | [], qs, acc => rfl
  | p :: ps, qs, acc => by
    show (addPart acc p).bind (readParts (ps ++ qs)) = ((addPart acc p).bind (readParts ps)).bind (readParts qs)
    cases e : addPart acc p with
    | none => rfl
    | some a => exact readParts_app ps qs a
def readSum (d : PyData) : Option (Int × Mul) := match d with
  | .int n => some (n, [])
  | d => match items d with
    | some [.int n, q] => (items q).bind fun ds => (readParts ds []).map fun kvs => (n, form kvs)
    | _ => none
def okPart (p : PyData) : Prop := ∀ x m, items p = some [x, .int m] → (∀ xs, x ≠ .list xs) ∧ shortP x ∧ ∀ u, readUnk x = some u → NmU u
def okSum (d : PyData) : Prop := ∀ n q ds, items d = some [.int n, q] → items q = some ds → ds.length ≤ 1000 ∧ ∀ p ∈ ds, okPart p
def SumV (K : PySem.W.Frag) (H : Hp) (v : V) : Option (Int × Mul) → Prop
  | none => v = .non
  | some (n, ps) => Dp K H v (sumD n ps)
def spReadSum (K : PySem.W.Frag) : Sp := fun vs H Q _ => ∃ v d, vs = [v] ∧ Th K H v d ∧ okSum d ∧ ∀ v' H', Same H H' → SumV K H' v' (readSum d) → Q v' H'
abbrev sReadSum : Stmt := topS 15
theorem scReadSum : FnScope ["thing", "multiples", "part", "unknown"] ["thing"] (defScope sReadSum) := ⟨rfl, rfl, rfl, by decide +kernel, rfl, by decide +kernel, by decide +kernel⟩
theorem row_sq {K : PySem.W.Frag} {H H' : Hp} {a : Addr} {xs : List V} (e : Same H H') (h : SqL K H a xs ∨ SqT K H a xs) : SqL K H' a xs ∨ SqT K H' a xs := h.imp (sqL_same e) (sqT_same e)
theorem ix_row {K : PySem.W.Frag} {H : Hp} {a : Addr} {xs : List V} {i : Int} {v : V} {Q : VK} (h : SqL K H a xs ∨ SqT K H a xs) (e : atI xs i = some v) (q : Q v H) : rIx K (.ref a) (.int i) H Q := by
  rcases h with h | h
  · exact .inl ⟨a, xs, i, v, rfl, rfl, h, e, q⟩
  · exact .inr (.inl ⟨a, xs, i, v, rfl, rfl, h, e, q⟩)
theorem rd_drop {H : Hp} {D b : Addr} {o u : HO} (h : Rd (upd H D o) b u) (h1 : o ≠ u) (h2 : ∀ x, o ≠ .frz x u) : Rd H b u := by
  have hb : b ≠ D := fun z => by
    rcases h with h | ⟨x, h⟩
    · rw [z, upd_same] at h
      exact h1 (Option.some.inj h)
    · rw [z, upd_same] at h
      exact h2 x (Option.some.inj h)
  rcases h with h | ⟨x, h⟩
  · rw [upd_ne hb] at h
    exact .inl h
  · rw [upd_ne hb] at h
    exact .inr ⟨x, h⟩
theorem sqL_drop {K : PySem.W.Frag} {H : Hp} {D b : Addr} {k : List (List Key × V)} {xs : List V} (h : SqL K (upd H D (.dT k)) b xs) : SqL K H b xs := by
  rcases h with h | h
  · exact .inl (rd_drop h (by intro z; cases z) (by intro x z; cases z))
  · exact .inr h
theorem sqT_drop {K : PySem.W.Frag} {H : Hp} {D b : Addr} {k : List (List Key × V)} {xs : List V} (h : SqT K (upd H D (.dT k)) b xs) : SqT K H b xs := by
  rcases h with h | h
  · exact .inl (rd_drop h (by intro z; cases z) (by intro x z; cases z))
  · exact .inr h
theorem row_drop {K : PySem.W.Frag} {H : Hp} {D b : Addr} {k : List (List Key × V)} {xs : List V} (h : SqL K (upd H D (.dT k)) b xs ∨ SqT K (upd H D (.dT k)) b xs) : SqL K H b xs ∨ SqT K H b xs := h.imp sqL_drop sqT_drop
theorem dps_get {K : PySem.W.Frag} {H : Hp} : ∀ {vs : List V} {ds : List PyData}, DpAll K H vs ds → ∀ {i : Nat} {v : V}, vs[i]? = some v → ∃ d, ds[i]? = some d ∧ Dp K H v d
  | _, _, .nil, i, v, h => by simp at h
  | _, _, .cons g t, 0, v, e => by
    obtain rfl : _ = v := Option.some.inj e
    exact ⟨_, rfl, g⟩
  | _, _, .cons g t, i + 1, v, e => dps_get t (i := i) e
theorem parts_split {ds : List PyData} {i : Nat} {dp : PyData} (h : ds[i]? = some dp) : ds = ds.take i ++ dp :: ds.drop (i + 1) := by
  have hi : i < ds.length := (List.getElem?_eq_some_iff.mp h).1
  have e : ds[i] = dp := (List.getElem?_eq_some_iff.mp h).2
  rw [← e, ← List.drop_eq_getElem_cons hi]
  exact (List.take_append_drop i ds).symm
theorem parts_stop {ds : List PyData} {i : Nat} {dp : PyData} {acc : Mul} (h : ds[i]? = some dp) (h1 : readParts (ds.take i) [] = some acc) (h2 : addPart acc dp = none) : readParts ds [] = none := by
  rw [parts_split h, readParts_app, h1]
  show (addPart acc dp).bind _ = none
  rw [h2]
  rfl
theorem parts_more {ds : List PyData} {i : Nat} {dp : PyData} {acc acc' : Mul} (h : ds[i]? = some dp) (h1 : readParts (ds.take i) [] = some acc) (h2 : addPart acc dp = some acc') : readParts (ds.take (i + 1)) [] = some acc' := by
  rw [List.take_add_one, h, readParts_app, h1]
  show (addPart acc dp).bind (readParts []) = some acc'
  rw [h2]
  rfl
theorem getD_val (acc : Mul) (u : List Key) : (valV (vKv acc) u).getD (.int 0) = .int (getI acc u) := by
  rw [valV_kv]
  unfold getI
  cases acc.find? fun kv => decide (kv.1 = u) with
  | none => rfl
  | some p => rfl
/-- two items -/
theorem dps_two {K : PySem.W.Frag} {H : Hp} {xs : List V} {a b : PyData} (h : DpAll K H xs [a, b]) : ∃ x y, xs = [x, y] ∧ Dp K H x a ∧ Dp K H y b := by
  cases h with
  | cons h1 h => cases h with
    | cons h2 h =>
      cases h
      exact ⟨_, _, rfl, h1, h2⟩
theorem rof_two {d : PyData} (h : isRof d 2 = true) : ∃ a b, items d = some [a, b] := by
  unfold isRof at h
  cases e : items d with
  | none => rw [e] at h; cases h
  | some xs =>
    rw [e] at h
    have e' : ((xs.length : Int) = 2) := of_decide_eq_true h
    match xs, e' with
    | [x, y], _ => exact ⟨x, y, rfl⟩
    | [], z => exact absurd z (by decide)
    | [_], z => exact absurd z (by simp)
    | _ :: _ :: _ :: _, z => simp at z; omega
theorem rof_not {d : PyData} (h : isRof d 2 = false) : ∀ a b, items d ≠ some [a, b] := by
  intro a b e
  unfold isRof at h
  rw [e] at h
  cases h
theorem at2 {a b : V} (i : Nat) (v : V) (h : [a, b][i]? = some v) : atI [a, b] (i : Int) = some v := by
  have hi : i < 2 := (List.getElem?_eq_some_iff.mp h).1
  unfold atI ixN
  rw [if_pos (by omega), if_pos (by show (i : Int) < ((2 : Nat) : Int); omega)]
  show ([a, b] : List V)[((i : Int)).toNat]? = _
  rw [Int.toNat_natCast]
  exact h
section
variable {P : Program} {w : World} {K : PySem.W.Frag} {mg : Str → Option Value} {base : Heap}
theorem ok_readSum {f : Addr} {fd : FuncData} (F : Fun K "read_sum" "read_sum" sReadSum f fd) (G1 : Has P w K mg base CX0 3 "is_integer" ["thing"] (spIsInt K)) (G2 : Has P w K mg base CX0 3 "is_row_of" ["thing", "many"] (spIsRowOf K))
    (G3 : Has P w K mg base CX0 3 "is_row" ["thing"] (spIsRow K)) (G4 : Has P w K mg base CX0 3 "read_unknown" ["thing"] (spReadUnk K)) (G5 : Has P w K mg base CX0 3 "one_form" ["number", "multiples"] (spOneForm K)) :
    FnOk P w K mg base CX0 4 f fd ["thing"] (spReadSum K) := by
  refine F.ok scReadSum (fun vs H Q E h => ?_) (fun cdv A outer s H vs Q E hr h => ?_)
  · obtain ⟨v, d, rfl, _⟩ := h
    rfl
  · obtain ⟨v, d, rfl, th, ok, q⟩ := h
    have hu := hu_of hr
    refine ⟨_, (pss_cons (ps_if (pt_val (pe_callH G1 hr (by rfl) pass0 (pa_cons (pv 0) pa_nil))) (pss_one (ps_ret (pe_tup (pa_cons (pv 0) (pa_cons (pe_tup pa_nil) pa_nil))))) pss_nil)
      (pss_cons (ps_if (PW.pt (pw_or (pt_not (pt_val (pe_callH G2 hr (by rfl) pass0 (pa_cons (pv 0) (pa_cons pe_int pa_nil))))) (pw_or (pt_not (pt_val (pe_callH G1 hr (by rfl) pass0 (pa_cons (pe_ix ix_seq (pv 0) pe_int (fun _ _ => rfl)) pa_nil)))) (pw_or1 (pt_not (pt_val (pe_callH G3 hr (by rfl) pass0 (pa_cons (pe_ix ix_seq (pv 0) pe_int (fun _ _ => rfl)) pa_nil)))))))) (pss_one (ps_ret pe_non)) pss_nil)
      (pss_cons (ps_set (i := 1) scReadSum.nd rfl (.inl rfl) (pe_dnewT))
      (pss_cons (ps_for PassesOwn.never rfl (pi_seq (pe_ix ix_seq (pv 0) pe_int (fun _ _ => rfl))) (pg_name (i := 2) scReadSum.nd rfl (.inl rfl)) (pss_cons (ps_if (PW.pt (pw_or (pt_not (pt_val (pe_callH G2 hr (by rfl) pass0 (pa_cons (pv 2) (pa_cons pe_int pa_nil))))) (pw_or1 (pt_not (pt_val (pe_callH G1 hr (by rfl) pass0 (pa_cons (pe_ix ix_seq (pv 2) pe_int (fun _ _ => rfl)) pa_nil))))))) (pss_one (ps_ret pe_non)) pss_nil)
      (pss_cons (ps_set (i := 3) scReadSum.nd rfl (.inl rfl) (pe_callH G4 hr (by rfl) pass0 (pa_cons (pe_ix ix_seq (pv 2) pe_int (fun _ _ => rfl)) pa_nil)))
      (pss_cons (ps_if (pt_cmpR op_isN (pv 3) pe_non (nomark _)) (pss_one (ps_ret pe_non)) pss_nil)
      (pss_one (ps_dput hu (pv 1) (pv 3) (pe_op op_add (pe_dget2 hu (pv 1) (pv 3) pe_int ⟨rfl, rfl, rfl, rfl⟩) (pe_ix ix_seq (pv 2) pe_int (fun _ _ => rfl))) rfl))))))
      (pss_one (ps_ret (pe_callH G5 hr (by rfl) pass0 (pa_cons (pe_ix ix_seq (pv 0) pe_int (fun _ _ => rfl)) (pa_cons (pv 1) pa_nil))))))))), ?_⟩
    refine ⟨_, rfl, v, d, rfl, th, _, rfl, ?_⟩
    cases ei : isI d with
    | true =>
      obtain ⟨n, rfl⟩ : ∃ n, d = .int n := by
        cases d with
        | int n => exact ⟨n, rfl⟩
        | _ => cases ei
      obtain rfl : v = .int n := by
        cases th with
        | dat h => cases h; rfl
      refine iteT ⟨_, rfl, Nat.zero_le _, fun e he => ⟨(by show 2 ≤ sizeLine; decide), fun p hp => ?_⟩⟩
      refine q _ _ ((same_new he).trans (same_new hp)) ?_
      have ee : (upd (upd H e (.tup [])) p (.tup [.int n, .ref e])) e = some (.tup []) := same_new hp _ _ upd_same
      exact .tup (SqT.of upd_same) (.cons (.int n) (.cons (.tup (SqT.of ee) .nil) .nil))
    | false =>
      refine iteF ?_
      have rs : readSum d = match items d with
        | some [.int n, q] => (items q).bind fun ds => (readParts ds []).map fun kvs => (n, form kvs)
        | _ => none := by
        cases d with
        | int n => cases ei
        | _ => rfl
      refine ⟨_, rfl, v, d, 2, rfl, th, fun H1 sm1 => ⟨_, rfl, ?_⟩⟩
      cases e2 : isRof d 2 with
      | false =>
        refine iteT (q _ _ sm1 ?_)
        have z : readSum d = none := by
          rw [rs]
          split
          · rename_i n q' e
            exact absurd e (rof_not e2 _ _)
          · rfl
        rw [z]
        rfl
      | true =>
        refine iteF ?_
        obtain ⟨d1, dq, e3⟩ := rof_two e2
        obtain ⟨a, xs, rfl, hs, ha⟩ := th_row (th_same sm1 th) e3
        obtain ⟨v1, vq, rfl, h1, h2⟩ := dps_two ha
        refine ⟨_, rfl, ix_row hs (at2 0 v1 rfl) ?_⟩
        refine ⟨v1, d1, rfl, .dat h1, _, rfl, ?_⟩
        cases ei1 : isI d1 with
        | false =>
          refine iteT (q _ _ sm1 ?_)
          have z : readSum d = none := by
            rw [rs, e3]
            cases d1 with
            | int n => cases ei1
            | _ => rfl
          rw [z]
          rfl
        | true =>
          obtain ⟨n, rfl⟩ : ∃ n, d1 = .int n := by
            cases d1 with
            | int n => exact ⟨n, rfl⟩
            | _ => cases ei1
          cases h1
          rw [e3] at rs
          refine iteF ⟨_, rfl, ix_row hs (at2 1 vq rfl) ⟨vq, dq, rfl, .dat h2, fun H2 sm2 => ⟨_, rfl, ?_⟩⟩⟩
          rw [isR_items]
          cases e4 : items dq with
          | none =>
            refine iteT (q _ _ (sm1.trans sm2) ?_)
            have z : readSum d = none := by
              rw [rs]
              show (items dq).bind _ = none
              rw [e4]
              rfl
            rw [z]
            rfl
          | some ds =>
            obtain ⟨hlen, hok⟩ := ok n dq ds e3 e4
            have rs2 : readSum d = (readParts ds []).map fun kvs => (n, form kvs) := by
              rw [rs]
              show (items dq).bind _ = _
              rw [e4]
              rfl
            have hs2 := row_sq sm2 hs
            obtain ⟨b, ys, rfl, hb, hby⟩ := th_row (th_same sm2 (.dat h2)) e4
            refine iteF fun D hD => ?_
            have sm3 := sm1.trans (sm2.trans (same_new (o := .dT []) hD))
            refine ⟨_, rfl, ix_row (row_sq (same_new hD) hs2) (at2 1 _ rfl) ⟨b, ys, rfl, row_sq (same_new hD) hb, fun J G W hG => ?_⟩⟩
            have ly : ys.length = ds.length := dps_len hby
            have keyless : ∀ x ∈ ([] : Mul).map Prod.fst, NmU x := fun x hx => by simp at hx
            refine for_it W (fun i σ H4 => ∃ (acc : Mul) (p u : Option V), σ = [some (.ref a), some (.ref D), p, u] ∧ Same H2 H4 ∧ H4 D = some (.dT (vKv acc)) ∧ readParts (ds.take i) [] = some acc ∧ (∀ x ∈ acc.map Prod.fst, NmU x) ∧ acc.length ≤ i)
              ⟨[], none, none, rfl, same_new hD, upd_same, rfl, keyless, Nat.le_refl _⟩ (fun i σ H4 _ ⟨_, _, _, _, s4, _⟩ => hG H4 (fun z => sqL_same s4 (sqL_drop z)) (fun z => sqT_same s4 (sqT_drop z))) ?_ ?_
            · rintro i x σ H4 H4' hi ⟨acc, p, u, rfl, s4, hD4, hrp, hnm, hal⟩ ⟨rfl, hx⟩
              obtain ⟨dp, hdp, hxd⟩ := dps_get hby hx
              have hxd4 := dp_same s4 hxd
              have hokp := hok dp (List.mem_of_getElem? hdp)
              have stop : addPart acc dp = none → readSum d = none := by
                intro e
                rw [rs2, parts_stop hdp hrp e]
                rfl
              refine ⟨_, rfl, x, dp, 2, rfl, .dat hxd4, fun H5 s5 => ⟨_, rfl, ?_⟩⟩
              cases e5 : isRof dp 2 with
              | false =>
                refine iteT (q _ _ ((sm1.trans sm2).trans (s4.trans s5)) ?_)
                rw [stop (by
                  unfold addPart
                  split
                  · rename_i x' m' e
                    exact absurd e (rof_not e5 _ _)
                  · rfl)]
                rfl
              | true =>
                obtain ⟨pu, pm, e6⟩ := rof_two e5
                obtain ⟨c, zs, rfl, hc, hcd⟩ := th_row (.dat (dp_same s5 hxd4)) e6
                obtain ⟨w1, w2, rfl, g1, g2⟩ := dps_two hcd
                refine iteF ⟨_, rfl, ix_row hc (at2 1 w2 rfl) ⟨w2, pm, rfl, .dat g2, _, rfl, ?_⟩⟩
                cases e7 : isI pm with
                | false =>
                  refine iteT (q _ _ ((sm1.trans sm2).trans (s4.trans s5)) ?_)
                  rw [stop (by
                    unfold addPart
                    rw [e6]
                    cases pm with
                    | int m => cases e7
                    | _ => rfl)]
                  rfl
                | true =>
                  obtain ⟨m, rfl⟩ : ∃ m, pm = .int m := by
                    cases pm with
                    | int m => exact ⟨m, rfl⟩
                    | _ => cases e7
                  cases g2
                  obtain ⟨nl, shp, hnu⟩ := hokp pu m e6
                  refine iteF ⟨_, rfl, ix_row hc (at2 0 w1 rfl) ⟨w1, pu, rfl, .dat g1, nl, shp, fun vu H6 s6 hvu => ?_⟩⟩
                  have ea : addPart acc dp = (readUnk pu).map fun u => putI acc u (getI acc u + m) := by
                    unfold addPart
                    rw [e6]
                  cases e8 : readUnk pu with
                  | none =>
                    rw [e8] at hvu ea
                    obtain rfl : vu = .non := hvu
                    refine ⟨_, rfl, rfl, _, rfl, iteT (q _ _ ((sm1.trans sm2).trans ((s4.trans s5).trans s6)) ?_)⟩
                    rw [stop ea]
                    rfl
                  | some uu =>
                    rw [e8] at hvu ea
                    obtain ⟨au, rfl, hau⟩ := hvu
                    have hD6 : H6 D = some (.dT (vKv acc)) := s6 _ _ (s5 _ _ hD4)
                    refine ⟨_, rfl, rfl, _, rfl, iteF ?_⟩
                    refine ⟨_, rfl, D, rfl, .inr ⟨_, .inl hD6⟩, _, rfl, _, DGet.t hD6 hau, _, rfl, ix_row (row_sq s6 hc) (at2 1 _ rfl) ⟨getI acc uu, m, getD_val acc uu, rfl, ?_⟩⟩
                    have hi2 : i < ds.length := (List.getElem?_eq_some_iff.mp hdp).1
                    refine ⟨_, rfl, _, rfl, D, _, rfl, DPut.t hD6 hau (by
                      show (List.map _ acc).length < sizeLine
                      rw [List.length_map]
                      exact small1000 (by omega)), ?_⟩
                    rw [put_vKv]
                    refine ⟨_, _, _, rfl, fun b o e => ?_, upd_same, parts_more hdp hrp ea, putI_keys (hnu uu e8) hnm, Nat.le_trans (putI_len _ _ _) (by omega)⟩
                    rw [upd_ne (ne_of_none e hD)]
                    exact s6 _ _ (s5 _ _ (s4 _ _ e))
            · rintro σ H4 ⟨acc, p, u, rfl, s4, hD4, hrp, hnm, hal⟩
              rw [ly, List.take_length] at hrp
              rw [ly] at hal
              refine ⟨_, rfl, ix_row (row_sq s4 hs2) (at2 0 _ rfl) ⟨_, rfl, n, D, acc, rfl, hD4, hnm, by omega, fun v' H5 s5 hv => ?_⟩⟩
              refine q _ _ ((sm1.trans sm2).trans (s4.trans s5)) ?_
              rw [rs2, hrp]
              exact hv
end

/-! ### own errors of one field -/
/-- __init__ stores its argument under f -/
def spErrInit (K : PySem.W.Frag) (C : Addr) (f : Str) : Sp := fun vs H Q _ => ∃ a y, vs = [.ref a, y] ∧ H a = some (exo a C none) ∧ ∀ dx, H dx = none → dx ≠ a → Q .non (upd (upd H dx (exd dx [(f, y)])) a (exo a C (some dx)))
/-- what is known of such a class x at C -/
structure Err (P : Program) (w : World) (K : PySem.W.Frag) (mg : Str → Option Value) (base : Heap) (x : Str) (C : Addr) (f : Str) : Prop where
  g : mg x = some (.ref C)
  T : OexC K C
  no : PySem.W.findIn K (.ref C) f = some none
  xf : XfC K C
  te : PySem.W.exmOne K (.ref C) (.ref C) = some true
  ini : ∃ (fI : Addr) (fd : FuncData) (p2 : Str), PySem.W.findIn K (.ref C) "__init__" = some (some (.ref fI)) ∧ PySem.W.typeIn K (.ref fI) = some (.type "function") ∧ Binds K fd ["self", p2] [] ∧ FnOk P w K mg base CX0 1 fI fd ["self", p2] (spErrInit K C f)
theorem err_go {K : PySem.W.Frag} {C : Addr} {f : Str} {y : V} {H1 : Hp} {Q : XK} (q : ∀ dx, H1 dx = none → Q (.ref C) (some dx) (upd H1 dx (.xd [(f, y)]))) :
    [y].length ≤ 1000 ∧ ∀ a, H1 a = none → spErrInit K C f (.ref a :: ([y] ++ [])) (upd H1 a (exo a C none)) (fun v H2 => v = .non ∧ ∃ (d : Addr) (fs : List (Str × V)), H2 a = some (exo a C (some d)) ∧ H2 d = some (exd d fs) ∧ H1 d = none ∧ Q (.ref C) (some d) (upd (del H2 a) d (.xd fs))) (fun _ _ _ => False) := by
  refine ⟨(by show 1 ≤ 1000; decide), fun a ha => ⟨a, y, rfl, upd_same, fun dx hdx hne => ⟨rfl, dx, [(f, y)], upd_same, ?_, ?_, ?_⟩⟩⟩
  · rw [upd_ne hne, upd_same]
  · rw [upd_ne hne] at hdx
    exact hdx
  · have h1 : H1 dx = none := by
      rw [upd_ne hne] at hdx
      exact hdx
    have e : upd (del (upd (upd (upd H1 a (exo a C none)) dx (exd dx [(f, y)])) a (exo a C (some dx))) a) dx (.xd [(f, y)]) = upd H1 dx (.xd [(f, y)]) := by
      funext b
      by_cases hb : b = dx
      · rw [hb, upd_same, upd_same]
      · rw [upd_ne hb, upd_ne hb]
        by_cases hb2 : b = a
        · rw [hb2, del_same, ha]
        · rw [del_ne hb2, upd_ne hb2, upd_ne hb, upd_ne hb2]
    rw [e]
    exact q dx h1
def tRaise1 (K : PySem.W.Frag) (C : Addr) (f : Str) (te : TE) (W : WX) : TS := fun _ σ H => tMkO C (spErrInit K C f) [] (tCons te tNil) σ H fun cls d H' => W cls d σ H'
theorem ps_err {X : Cx} {W : WX} {x f : Str} {C : Addr} {e : Expr} {te : TE} {p pos pos2 : Pos} {k : Nat} (hc : X.calm = true) (tk : Takes X W) (T : Err X.prog X.w X.K X.mg X.base x C f) (hr : Room k X.A) (h2 : 2 ≤ k) (he : PE X e te) (hg : Gl X x := by rfl)
    (hdb : (x == ("__debug__" : Str)) = false := by decide) (hs : starEach (e :: []) X.env = (false, eval e X.env) :: starEach [] X.env := by rfl) (hpl : (backTo pos (starEach [] X.env)).any (·.1) = false := by rfl) :
    PS X (.Raise (some (.Call (.Name x p) [e] [] pos)) none pos2) (tRaise1 X.K C f te W) := by
  obtain ⟨fI, fd, p2, iC, tI, hb, F⟩ := T.ini
  exact ps_raise (pos := pos2) hc tk (pmk_oex (p := p) (pos := pos) T.T iC tI F (hr.mono h2) hb .nil pass0 hg T.g (pa_cons he pa_nil hs) hdb hs hpl)
/-- their __init__ -/
abbrev sIniS : Stmt := inClass (topS 2) 0
abbrev sIniF : Stmt := inClass (topS 3) 0
theorem scIniS : FnScope ["self", "thing"] ["self", "thing"] (defScope sIniS) := ⟨rfl, rfl, rfl, by decide +kernel, rfl, by decide +kernel, by decide +kernel⟩
theorem scIniF : FnScope ["self", "name"] ["self", "name"] (defScope sIniF) := ⟨rfl, rfl, rfl, by decide +kernel, rfl, by decide +kernel, by decide +kernel⟩
/-- behind a loop-free way: what is raised -/
def spSumOf (K : PySem.W.Frag) (CS : Addr) : Sp := fun vs H Q E => ∃ v d, vs = [v] ∧ Th K H v d ∧ okSum d ∧ (∀ n ps, readSum d = some (n, ps) → ∀ v' H', Same H H' → Dp K H' v' (sumD n ps) → Q v' H') ∧
  (readSum d = none → ∀ H' dx, Same H H' → H' dx = none → E (.ref CS) (some dx) (upd H' dx (.xd [("thing", v)])))
abbrev sSumOf : Stmt := topS 16
theorem scSumOf : FnScope ["thing", "found"] ["thing"] (defScope sSumOf) := ⟨rfl, rfl, rfl, by decide +kernel, rfl, by decide +kernel, by decide +kernel⟩
theorem dp_not_non {K : PySem.W.Frag} {H : Hp} {v : V} {n : Int} {ps : Mul} (h : Dp K H v (sumD n ps)) : decide (v = .non) = false := by
  cases h
  rfl
section
variable {P : Program} {w : World} {K : PySem.W.Frag} {mg : Str → Option Value} {base : Heap}
theorem ok_iniS {f C : Addr} {fd : FuncData} (F : Fun K "__init__" "BadSum.__init__" sIniS f fd) (T : OexC K C) (no : PySem.W.findIn K (.ref C) "thing" = some none) : FnOk P w K mg base CX0 1 f fd ["self", "thing"] (spErrInit K C "thing") := by
  refine F.ok scIniS (fun vs H Q E h => ?_) (fun cdv A outer s H vs Q E hr h => ?_)
  · obtain ⟨a, y, rfl, _⟩ := h
    rfl
  · obtain ⟨a, y, rfl, ha, q⟩ := h
    exact ⟨_, pss_one (ps_ost (pv 0) (pv 1)), _, rfl, _, rfl, a, C, rfl, T, no, .inl ⟨ha, q⟩⟩
theorem ok_iniF {f C : Addr} {fd : FuncData} (F : Fun K "__init__" "BadField.__init__" sIniF f fd) (T : OexC K C) (no : PySem.W.findIn K (.ref C) "name" = some none) : FnOk P w K mg base CX0 1 f fd ["self", "name"] (spErrInit K C "name") := by
  refine F.ok scIniF (fun vs H Q E h => ?_) (fun cdv A outer s H vs Q E hr h => ?_)
  · obtain ⟨a, y, rfl, _⟩ := h
    rfl
  · obtain ⟨a, y, rfl, ha, q⟩ := h
    exact ⟨_, pss_one (ps_ost (pv 0) (pv 1)), _, rfl, _, rfl, a, C, rfl, T, no, .inl ⟨ha, q⟩⟩
theorem ok_sumOf {f CS : Addr} {fd : FuncData} (F : Fun K "sum_of" "sum_of" sSumOf f fd) (S : Err P w K mg base "BadSum" CS "thing") (G : Has P w K mg base CX0 4 "read_sum" ["thing"] (spReadSum K)) : FnOk P w K mg base (L2.CX P w) 5 f fd ["thing"] (spSumOf K CS) := by
  refine F.okX scSumOf (fun vs H Q E h => ?_) (fun cdv A outer s H vs Q E hr h => ?_)
  · obtain ⟨v, d, rfl, _⟩ := h
    rfl
  · obtain ⟨v, d, rfl, th, ok, q, qe⟩ := h
    refine ⟨_, (pss_cons (ps_set (i := 1) scSumOf.nd rfl (.inl rfl) (pe_callH G hr (by rfl) pass0 (pa_cons (pv 0) pa_nil)))
      (pss_cons (ps_if (pt_cmpR op_isN (pv 1) pe_non (nomark _)) (pss_one (ps_err rfl (takes_of rfl rfl rfl rfl) S hr (by decide) (pv 0))) pss_nil)
      (pss_one (ps_ret (pv 1))))), ?_⟩
    refine ⟨_, rfl, v, d, rfl, th, ok, fun v' H1 s1 hv => ⟨_, rfl, rfl, _, rfl, ?_⟩⟩
    cases e : readSum d with
    | none =>
      rw [e] at hv
      obtain rfl : v' = .non := hv
      exact iteT ⟨_, rfl, err_go fun dx hdx => qe e H1 dx s1 hdx⟩
    | some r =>
      obtain ⟨n, ps⟩ := r
      rw [e] at hv
      rw [dp_not_non hv]
      exact iteF ⟨_, rfl, q n ps e v' H1 s1 hv⟩
end

def upTo (d : PyData) (m : Int) : Bool := match d with
  | .int i => decide (0 ≤ i) && decide (i ≤ m)
  | _ => false
def intOf : PyData → Int
  | .int i => i
  | _ => 0
def badF (c x y d : PyData) : Option Str := if upTo c 31 = false then some "code" else if upTo x 7 = false then some "x" else if upTo y 7 = false then some "y" else if isI d = false then some "d" else none
def codeI (c x y d : PyData) : Int := intOf c + 32 * intOf x + 256 * intOf y + 2048 * intOf d
def spUpTo (K : PySem.W.Frag) : Sp := fun vs H Q _ => ∃ v d m, vs = [v, .int m] ∧ Th K H v d ∧ Q (.bl (upTo d m)) H
def spCoded (K : PySem.W.Frag) (CF : Addr) : Sp := fun vs H Q E => ∃ v1 v2 v3 v4 d1 d2 d3 d4, vs = [v1, v2, v3, v4] ∧ Th K H v1 d1 ∧ Th K H v2 d2 ∧ Th K H v3 d3 ∧ Th K H v4 d4 ∧
  (badF d1 d2 d3 d4 = none → Q (.int (codeI d1 d2 d3 d4)) H) ∧ (∀ s, badF d1 d2 d3 d4 = some s → ∀ dx, H dx = none → E (.ref CF) (some dx) (upd H dx (.xd [("name", .str s)])))
abbrev sUpTo : Stmt := topS 20
abbrev sCoded : Stmt := topS 21
theorem scUpTo : FnScope ["thing", "most"] ["thing", "most"] (defScope sUpTo) := ⟨rfl, rfl, rfl, by decide +kernel, rfl, by decide +kernel, by decide +kernel⟩
theorem scCoded : FnScope ["code", "x", "y", "d"] ["code", "x", "y", "d"] (defScope sCoded) := ⟨rfl, rfl, rfl, by decide +kernel, rfl, by decide +kernel, by decide +kernel⟩
theorem upTo_int {d : PyData} {m : Int} {K : PySem.W.Frag} {H : Hp} {v : V} (h : upTo d m = true) (th : Th K H v d) : v = .int (intOf d) := by
  cases d with
  | int i =>
    cases th with
    | dat h => cases h; rfl
  | _ => cases h
theorem isI_int {d : PyData} {K : PySem.W.Frag} {H : Hp} {v : V} (h : isI d = true) (th : Th K H v d) : v = .int (intOf d) := by
  cases d with
  | int i =>
    cases th with
    | dat h => cases h; rfl
  | _ => cases h
section
variable {P : Program} {w : World} {K : PySem.W.Frag} {mg : Str → Option Value} {base : Heap}
theorem ok_upTo {f : Addr} {fd : FuncData} (F : Fun K "is_up_to" "is_up_to" sUpTo f fd) (G : Has P w K mg base CX0 1 "is_integer" ["thing"] (spIsInt K)) : FnOk P w K mg base CX0 2 f fd ["thing", "most"] (spUpTo K) := by
  refine F.ok scUpTo (fun vs H Q E h => ?_) (fun cdv A outer s H vs Q E hr h => ?_)
  · obtain ⟨v, d, m, rfl, _⟩ := h
    rfl
  · obtain ⟨v, d, m, rfl, th, q⟩ := h
    refine ⟨_, (pss_one (ps_ret (pe_and (pe_callH G hr (by rfl) pass0 (pa_cons (pv 0) pa_nil)) (pe_one (pe_chain op_le op_le pe_int (pv 0) (pv 1)))))), ?_⟩
    refine ⟨_, rfl, v, d, rfl, th, _, rfl, ?_⟩
    cases e : isI d with
    | false =>
      have z : upTo d m = false := by cases d <;> first | rfl | cases e
      rw [z] at q
      exact iteF q
    | true =>
      obtain rfl := isI_int e th
      have z : upTo d m = (decide (0 ≤ intOf d) && decide (intOf d ≤ m)) := by cases d <;> first | rfl | cases e
      rw [z] at q
      refine iteT ⟨_, rfl, _, _, rfl, rfl, _, rfl, ?_⟩
      cases c : decide (0 ≤ intOf d) with
      | false =>
        rw [c] at q
        exact iteF q
      | true =>
        rw [c] at q
        exact iteT ⟨_, rfl, _, _, rfl, rfl, q⟩
theorem ok_coded {f CF : Addr} {fd : FuncData} {dvs : List V} (F : FunD K "coded" "coded" (defArgs sCoded) (defBody sCoded) (defScope sCoded) dvs [] f fd) (S : Err P w K mg base "BadField" CF "name") (G1 : Has P w K mg base CX0 2 "is_up_to" ["thing", "most"] (spUpTo K))
    (G2 : Has P w K mg base CX0 2 "is_integer" ["thing"] (spIsInt K)) : FnOk P w K mg base (L2.CX P w) 4 f fd ["code", "x", "y", "d"] (spCoded K CF) := by
  refine F.ok scCoded (fun vs H Q E h => ?_) (fun cdv A outer s H vs Q E hr h => ?_)
  · obtain ⟨v1, v2, v3, v4, d1, d2, d3, d4, rfl, _⟩ := h
    rfl
  · obtain ⟨v1, v2, v3, v4, d1, d2, d3, d4, rfl, t1, t2, t3, t4, q, qe⟩ := h
    have hr2 : Room 2 _ := hr.mono (by decide)
    refine ⟨_, (pss_cons (ps_if (pt_not (pt_val (pe_callH G1 hr2 (by rfl) pass0 (pa_cons (pv 0) (pa_cons pe_int pa_nil))))) (pss_one (ps_err rfl (takes_of rfl rfl rfl rfl) S hr2 (by decide) pe_str)) pss_nil)
      (pss_cons (ps_if (pt_not (pt_val (pe_callH G1 hr2 (by rfl) pass0 (pa_cons (pv 1) (pa_cons pe_int pa_nil))))) (pss_one (ps_err rfl (takes_of rfl rfl rfl rfl) S hr2 (by decide) pe_str)) pss_nil)
      (pss_cons (ps_if (pt_not (pt_val (pe_callH G1 hr2 (by rfl) pass0 (pa_cons (pv 2) (pa_cons pe_int pa_nil))))) (pss_one (ps_err rfl (takes_of rfl rfl rfl rfl) S hr2 (by decide) pe_str)) pss_nil)
      (pss_cons (ps_if (pt_not (pt_val (pe_callH G2 hr2 (by rfl) pass0 (pa_cons (pv 3) pa_nil)))) (pss_one (ps_err rfl (takes_of rfl rfl rfl rfl) S hr2 (by decide) pe_str)) pss_nil)
      (pss_one (ps_ret (pe_op op_add (pe_op op_add (pe_op op_add (pv 0) (pe_op op_mul pe_int (pv 1))) (pe_op op_mul pe_int (pv 2))) (pe_op op_mul pe_int (pv 3))))))))), ?_⟩
    refine ⟨_, rfl, v1, d1, _, rfl, t1, _, rfl, ?_⟩
    cases e1 : upTo d1 31 with
    | false => exact iteT (err_go fun dx hdx => qe "code" (by unfold badF; rw [if_pos e1]) dx hdx)
    | true =>
    refine iteF ⟨_, rfl, v2, d2, _, rfl, t2, _, rfl, ?_⟩
    have n1 : ¬ upTo d1 31 = false := by rw [e1]; exact Bool.noConfusion
    cases e2 : upTo d2 7 with
    | false => exact iteT (err_go fun dx hdx => qe "x" (by unfold badF; rw [if_neg n1, if_pos e2]) dx hdx)
    | true =>
    refine iteF ⟨_, rfl, v3, d3, _, rfl, t3, _, rfl, ?_⟩
    have n2 : ¬ upTo d2 7 = false := by rw [e2]; exact Bool.noConfusion
    cases e3 : upTo d3 7 with
    | false => exact iteT (err_go fun dx hdx => qe "y" (by unfold badF; rw [if_neg n1, if_neg n2, if_pos e3]) dx hdx)
    | true =>
    refine iteF ⟨_, rfl, v4, d4, rfl, t4, _, rfl, ?_⟩
    have n3 : ¬ upTo d3 7 = false := by rw [e3]; exact Bool.noConfusion
    cases e4 : isI d4 with
    | false => exact iteT (err_go fun dx hdx => qe "d" (by unfold badF; rw [if_neg n1, if_neg n2, if_neg n3, if_pos e4]) dx hdx)
    | true =>
      have n4 : ¬ isI d4 = false := by rw [e4]; exact Bool.noConfusion
      obtain rfl := upTo_int e1 t1
      obtain rfl := upTo_int e2 t2
      obtain rfl := upTo_int e3 t3
      obtain rfl := isI_int e4 t4
      refine iteF ⟨_, rfl, _, rfl, _, _, rfl, rfl, .inl ⟨by decide, by decide⟩, _, _, rfl, rfl, _, rfl, _, _, rfl, rfl, .inl ⟨by decide, by decide⟩, _, _, rfl, rfl, _, rfl, _, _, rfl, rfl, .inl ⟨by decide, by decide⟩, _, _, rfl, rfl, ?_⟩
      exact q (by unfold badF; rw [if_neg n1, if_neg n2, if_neg n3, if_neg n4])
end

def uA : List Key := [.inr sPiece, .inr "a"]
def uB : List Key := [.inr sPiece, .inr "b"]
/-- the sums that the law comes to -/
inductive Ab : Mul → Prop
  | nil : Ab []
  | a (m : Int) : Ab [(uA, m)]
  | b (m : Int) : Ab [(uB, m)]
  | ab (m k : Int) : Ab [(uA, m), (uB, k)]
theorem Ab.len {ps : Mul} (h : Ab ps) : ps.length ≤ 2 := by cases h <;> simp
theorem ok_piece : PyData.strOk sPiece = true := by decide +kernel
theorem ok_a : PyData.strOk ("a" : Str) = true := by decide +kernel
theorem ok_b : PyData.strOk ("b" : Str) = true := by decide +kernel
theorem shaped_sum {ps : Mul} (h : Ab ps) (n : Int) : SeqAt.shaped (sumD n ps) = true := by
  cases h <;> simp [SeqAt.shaped, sumD, partD, unkD, uA, uB, keyDat, PyData.canLay0, PyData.canLayAll0, PyData.depth, PyData.depthAll, ok_piece, ok_a, ok_b]
/-- multiples divided -/
def div2 (ps : Mul) : Mul := ps.map fun p => (p.1, p.2 / 2048)
theorem Ab.div {ps : Mul} (h : Ab ps) : Ab (div2 ps) := by
  cases h
  · exact .nil
  · exact .a _
  · exact .b _
  · exact .ab _ _
def odd2 (ps : Mul) : Bool := (ps.map fun p => !decide (p.2 % 2048 = 0)).any id
def dD (n : Int) (ps : Mul) : PyData := if ps = [] then .int (n / 2048) else sumD (n / 2048) (div2 ps)
def fieldsD (n : Int) (ps : Mul) : Option PyData := if odd2 ps = true then none else some (.tuple [.int (n % 32), .int (n / 32 % 8), .int (n / 256 % 8), dD n ps])
def OptV (K : PySem.W.Frag) (H : Hp) (v : V) : Option PyData → Prop
  | none => v = .non
  | some d => Dp K H v d
def spFieldsIn (K : PySem.W.Frag) : Sp := fun vs H Q _ => ∃ v n ps, vs = [v] ∧ Dp K H v (sumD n ps) ∧ ps.length ≤ 1000 ∧ ∀ v' H', Same H H' → OptV K H' v' (fieldsD n ps) → Q v' H'
abbrev sFieldsIn : Stmt := topS 22
theorem scFieldsIn : FnScope ["word", "number", "parts", "d", "_", "multiple", "unknown"] ["word"] (defScope sFieldsIn) := ⟨rfl, rfl, rfl, by decide +kernel, rfl, by decide +kernel, by decide +kernel⟩
theorem dps_mapget {K : PySem.W.Frag} {H : Hp} {xs : List V} {ps : Mul} (h : DpAll K H xs (ps.map partD)) {i : Nat} {x : V} (e : xs[i]? = some x) : ∃ u m, ps[i]? = some (u, m) ∧ Dp K H x (partD (u, m)) := by
  obtain ⟨d, hd, hx⟩ := dps_get h e
  rw [List.getElem?_map] at hd
  cases e2 : ps[i]? with
  | none => rw [e2] at hd; cases hd
  | some p =>
    rw [e2] at hd
    obtain ⟨u, m⟩ := p
    obtain rfl : partD (u, m) = d := Option.some.inj hd
    exact ⟨u, m, rfl, hx⟩
theorem dp_part {K : PySem.W.Frag} {H : Hp} {x : V} {u : List Key} {m : Int} (h : Dp K H x (partD (u, m))) : ∃ c y, x = .ref c ∧ SqT K H c [y, .int m] ∧ Dp K H y (unkD u) := by
  cases h with
  | tup s t =>
    obtain ⟨y, z, rfl, h1, h2⟩ := dps_two t
    cases h2
    exact ⟨_, y, rfl, s, h1⟩
section
variable {P : Program} {w : World} {K : PySem.W.Frag} {mg : Str → Option Value} {base : Heap}
theorem ok_fieldsIn {f : Addr} {fd : FuncData} (F : Fun K "fields_in" "fields_in" sFieldsIn f fd) (T : Bi mg) : FnOk P w K mg base CX0 1 f fd ["word"] (spFieldsIn K) := by
  refine F.ok scFieldsIn (fun vs H Q E h => ?_) (fun cdv A outer s H vs Q E hr h => ?_)
  · obtain ⟨v, n, ps, rfl, _⟩ := h
    rfl
  · obtain ⟨v, n, ps, rfl, hv, hl, q⟩ := h
    apply Exists.intro
    refine' And.intro (pss_cons (ps_asg (pv 0) (pg_tup rfl (pgs_cons (pg_name (i := 1) scFieldsIn.nd rfl (.inl rfl)) (pgs_cons (pg_name (i := 2) scFieldsIn.nd rfl (.inl rfl)) pgs_nil))))
      (pss_cons (ps_if (pt_val (pe_callB (cr_any rfl) (by rfl) T.any (by decide +kernel) (pa_cons ?lc1 pa_nil))) (pss_one (ps_ret pe_non)) pss_nil)
      (pss_cons (ps_set (i := 3) scFieldsIn.nd rfl (.inl rfl) (pe_op op_fdiv (pv 1) pe_int))
      (pss_cons (ps_if (pt_truth (pv 2) (by intro _; rfl)) (pss_one (ps_set (i := 3) scFieldsIn.nd rfl (.inl rfl) (pe_tup (pa_cons (pv 3) (pa_cons (pe_callTy call_tuple_of (by rfl) T.tuple (by decide +kernel) (pa_cons ?lc2 pa_nil)) pa_nil))))) pss_nil)
      (pss_one (ps_ret (pe_tup (pa_cons (pe_op op_mod (pv 1) pe_int) (pa_cons (pe_op op_mod (pe_op op_fdiv (pv 1) pe_int) pe_int) (pa_cons (pe_op op_mod (pe_op op_fdiv (pv 1) pe_int) pe_int) (pa_cons (pv 3) pa_nil))))))))))) ?red
    case lc1 => exact (pe_lc (own := [("_", 4), ("multiple", 5)]) (g := gTup K 2 (gCons (gName 4) (gCons (gName 5) gNil))) (tt := tYes) rfl scFieldsIn.nd (pi_tup (pv 2)) (blkOk_by (N := ["word", "number", "parts", "d", "_", "multiple", "unknown"]) (sc := defScope sFieldsIn) (by decide +kernel)) (fun _ _ _ _ _ => (pg_tup rfl (pgs_cons (pg_name (i := 4) scFieldsIn.nd rfl (.inl rfl) (.inr rfl)) (pgs_cons (pg_name (i := 5) scFieldsIn.nd rfl (.inl rfl) (.inr rfl)) pgs_nil)))) (fun _ _ _ _ _ => pts_nil) (fun _ _ _ _ _ => (pe_cmpR op_ne (pe_op op_mod (pv 5) pe_int) pe_int (nomark _))))
    case lc2 => exact (pe_lc (own := [("unknown", 6), ("multiple", 5)]) (g := gTup K 2 (gCons (gName 6) (gCons (gName 5) gNil))) (tt := tYes) rfl scFieldsIn.nd (pi_tup (pv 2)) (blkOk_by (N := ["word", "number", "parts", "d", "_", "multiple", "unknown"]) (sc := defScope sFieldsIn) (by decide +kernel)) (fun _ _ _ _ _ => (pg_tup rfl (pgs_cons (pg_name (i := 6) scFieldsIn.nd rfl (.inl rfl) (.inr rfl)) (pgs_cons (pg_name (i := 5) scFieldsIn.nd rfl (.inl rfl) (.inr rfl)) pgs_nil)))) (fun _ _ _ _ _ => pts_nil) (fun _ _ _ _ _ => (pe_tup (pa_cons (pv 6) (pa_cons (pe_op op_fdiv (pv 5) pe_int) pa_nil)))))
    obtain ⟨a, xs, rfl, hs, ha⟩ := th_tup (.dat hv)
    obtain ⟨v1, v2, rfl, h1, h2⟩ := dps_two ha
    cases h1
    obtain ⟨b, ys, rfl, hb, hby⟩ := th_tup (.dat h2)
    have ly : ys.length = ps.length := by rw [dps_len hby, List.length_map]
    refine ⟨_, rfl, a, _, rfl, hs, rfl, _, _, rfl, _, _, rfl, rfl, ?_⟩
    refine ⟨_, rfl, b, rfl, ⟨_, hb⟩, fun D hD => ?_⟩
    refine lc_it (walk_tup (xs := ys)) (fun i H1 => (∀ c o, c ≠ D → H c = some o → H1 c = some o) ∧ H1 D = some (.lst (((ps.take i).map fun p => !decide (p.2 % 2048 = 0)).map V.bl)))
      ⟨fun c o hc e => by rw [upd_ne hc]; exact e, upd_same⟩ (fun i H1 _ ⟨kp, _⟩ => sqT_same (fun c o e => kp c o (ne_of_none e hD) e) hb) ?_ ?_
    · rintro i x H1 H1' hi ⟨kp, hd⟩ ⟨rfl, hx⟩
      have smi : Same H H1' := fun c o e => kp c o (ne_of_none e hD) e
      obtain ⟨u, m, hm, hxp⟩ := dps_mapget hby hx
      obtain ⟨c, y, rfl, hc, hy⟩ := dp_part (dp_same smi hxp)
      refine ⟨c, _, rfl, hc, rfl, _, _, rfl, _, _, rfl, rfl, ?_⟩
      refine ⟨rfl, yes_go (iteT ⟨_, rfl, _, _, rfl, rfl, (by show (0 : Int) < 2048; decide), rfl, _, hd, ?_, fun c o hc e => ?_, ?_⟩)⟩
      · rw [List.length_map, List.length_map, List.length_take]
        refine Nat.lt_of_le_of_lt (Nat.min_le_right _ _) (small1000 (by omega))
      · rw [upd_ne hc]
        exact kp c o hc e
      · rw [upd_same, List.take_add_one, hm, eq_int]
        simp
    · rintro H1 ⟨kp, hd⟩
      have sm1 : Same H H1 := fun c o e => kp c o (ne_of_none e hD) e
      rw [ly, List.take_length] at hd
      refine ⟨D, _, rfl, SqL.of hd, _, rfl, ?_⟩
      have eo : (ps.map fun p => !decide (p.2 % 2048 = 0)).any id = odd2 ps := rfl
      rw [eo]
      cases e1 : odd2 ps with
      | true =>
        refine iteT (q _ _ sm1 ?_)
        unfold fieldsD
        rw [if_pos e1]
        rfl
      | false =>
        have ef : fieldsD n ps = some (.tuple [.int (n % 32), .int (n / 32 % 8), .int (n / 256 % 8), dD n ps]) := by
          unfold fieldsD
          rw [if_neg (by rw [e1]; exact Bool.noConfusion)]
        rw [ef] at q
        have fin : ∀ (H5 : Hp) (vd : V) (x4 x5 x6 : Option V), Same H H5 → Dp K H5 vd (dD n ps) →
            tRet (tTup (tCons (tOp (rI (fun _ j => 0 < j) fun i j => .int (i % j)) (tVar 1) (tC (.int 32))) (tCons (tOp (rI (fun _ j => 0 < j) fun i j => .int (i % j)) (tOp (rI CDiv fun i j => .int (i / j)) (tVar 1) (tC (.int 32))) (tC (.int 8))) (tCons (tOp (rI (fun _ j => 0 < j) fun i j => .int (i % j)) (tOp (rI CDiv fun i j => .int (i / j)) (tVar 1) (tC (.int 256))) (tC (.int 8))) (tCons (tVar 3) tNil)))))
              { nx := fun _ H' => Q .non H', rt := Q } [some (.ref a), some (.int n), some (.ref b), some vd, x4, x5, x6] H5 := by
          intro H5 vd x4 x5 x6 s5 hd5
          refine ⟨_, rfl, _, _, rfl, rfl, (by show (0 : Int) < 32; decide), _, rfl, _, _, rfl, rfl, ⟨by decide, by decide⟩, _, _, rfl, rfl, (by show (0 : Int) < 8; decide), _, rfl, _, _, rfl, rfl, ⟨by decide, by decide⟩, _, _, rfl, rfl, (by show (0 : Int) < 8; decide), _, rfl, (by show 4 ≤ sizeLine; decide), fun p hp => ?_⟩
          refine q _ _ (s5.trans (same_new hp)) ?_
          exact .tup (SqT.of upd_same) (.cons (.int _) (.cons (.int _) (.cons (.int _) (.cons (dp_same (same_new hp) hd5) .nil))))
        refine iteF ⟨_, rfl, _, _, rfl, rfl, ⟨by decide, by decide⟩, ?_⟩
        have hb1 := sqT_same sm1 hb
        refine ⟨_, rfl, !ys.isEmpty, .inr (.inl ⟨ys, hb1, rfl⟩), ?_⟩
        cases ps with
        | nil =>
          obtain rfl : ys = [] := List.eq_nil_of_length_eq_zero ly
          exact iteF (fin _ _ _ _ _ sm1 (.int _))
        | cons p0 pr =>
          obtain ⟨y0, yr, rfl⟩ : ∃ y0 yr, ys = y0 :: yr := by
            cases ys with
            | nil => cases ly
            | cons y0 yr => exact ⟨y0, yr, rfl⟩
          have ed : dD n (p0 :: pr) = sumD (n / 2048) (div2 (p0 :: pr)) := if_neg (by intro z; cases z)
          refine iteT ?_
          generalize hps : p0 :: pr = ps at *
          generalize hys : y0 :: yr = ys at *
          refine ⟨_, rfl, _, rfl, b, rfl, ⟨_, hb1⟩, fun D2 hD2 => ?_⟩
          refine lc_it (walk_tup (xs := ys)) (fun i H4 => (∀ c o, c ≠ D2 → H1 c = some o → H4 c = some o) ∧ ∃ zs, H4 D2 = some (.lst zs) ∧ zs.length = i ∧ DpAll K (wo H4 D2) zs (((div2 ps).take i).map partD))
            ⟨fun c o hc e => by rw [upd_ne hc]; exact e, [], upd_same, rfl, .nil⟩ (fun i H4 _ ⟨kp, _⟩ => sqT_same (fun c o e => kp c o (ne_of_none e hD2) e) hb1) ?_ ?_
          · rintro i x H4 H4' hi ⟨kp4, zs, h4D, hzl, hzd⟩ ⟨rfl, hx⟩
            have smi : Same H1 (wo H4' D2) := fun c o e => by
              have hc := ne_of_none e hD2
              rw [wo_ne hc]
              exact kp4 c o hc e
            obtain ⟨u, m, hm, hxp⟩ := dps_mapget hby hx
            obtain ⟨c, y, rfl, hc, hy⟩ := dp_part (dp_same (sm1.trans smi) hxp)
            refine ⟨c, _, rfl, sqT_same wo_same hc, rfl, _, _, rfl, _, _, rfl, rfl, ?_⟩
            refine ⟨rfl, yes_go (iteT ⟨_, rfl, _, rfl, _, _, rfl, rfl, ⟨by decide, by decide⟩, (by show 2 ≤ sizeLine; decide), fun t ht => ⟨zs, ?_, small1000 (by omega), ?_, zs ++ [.ref t], upd_same, by simp; omega, ?_⟩⟩)⟩
            · rw [upd_ne (ne_of_none h4D ht)]
              exact h4D
            · intro c o hc e
              rw [upd_ne hc, upd_ne (ne_of_none (kp4 c o hc e) ht)]
              exact kp4 c o hc e
            · have tD : t ≠ D2 := fun z => by rw [z, h4D] at ht; cases ht
              have hdm : (div2 ps)[i]? = some (u, m / 2048) := by
                unfold div2
                rw [List.getElem?_map, hm]
                rfl
              rw [wo_self, List.take_add_one, hdm]
              simp only [Option.toList_some, List.map_append, List.map_cons, List.map_nil]
              refine dps_snoc ?_ (dps_same (wo_new ht tD) hzd)
              have et : wo (upd H4' t (.tup [y, .int (m / 2048)])) D2 t = some (.tup [y, .int (m / 2048)]) := by rw [wo_ne tD, upd_same]
              exact .tup (SqT.of et) (.cons (dp_same (wo_new ht tD) hy) (.cons (.int _) .nil))
          · rintro H4 ⟨kp4, zs, h4D, hzl, hzd⟩
            have ldv : (div2 ps).length = ps.length := List.length_map _
            rw [ly, ← ldv, List.take_length] at hzd
            refine ⟨D2, zs, rfl, .inl ⟨SqL.of h4D, fun l hl4 => ⟨(by show 2 ≤ sizeLine; decide), fun r hr5 => ?_⟩⟩⟩
            have s4 : Same H1 H4 := fun c o e => kp4 c o (ne_of_none e hD2) e
            have s5 := same_new (o := .tup zs) hl4
            have s6 := same_new (o := .tup [.int (n / 2048), .ref l]) hr5
            have el : (upd (upd H4 l (.tup zs)) r (.tup [.int (n / 2048), .ref l])) l = some (.tup zs) := s6 _ _ upd_same
            refine fin _ _ _ _ _ (((sm1.trans s4).trans s5).trans s6) ?_
            rw [ed]
            exact .tup (SqT.of upd_same) (.cons (.int _) (.cons (.tup (SqT.of el) (dps_same ((wo_same.trans s5).trans s6) hzd)) .nil))
end

def calledL : List Str := ["stop", "take", "tell", "ask", "askfar", "go", "gofar", "set", "here", "copy", "add", "less", "load", "store", "call", "callfar", "jump"]
def usedL : List Str := ["", "x", "x", "d", "", "d", "", "x", "xd", "xy", "xy", "xy", "xyd", "xyd", "d", "", "x"]
structure Tabs (K : PySem.W.Frag) (mg : Str → Option Value) (aC aU : Addr) : Prop where
  gC : mg "CALLED" = some (.ref aC)
  gU : mg "USED" = some (.ref aU)
  hC : ∀ H : Hp, SqT K H aC (calledL.map V.str)
  hU : ∀ H : Hp, SqT K H aU (usedL.map V.str)
def hasC (c : Nat) (s : Str) : Bool := decide (c ∈ s.cps.toList)
def badU (n : Int) (ps : Mul) (u : Str) : Bool := (!hasC 120 u && !decide (n / 32 % 8 = 0)) || ((!hasC 121 u && !decide (n / 256 % 8 = 0)) || (!hasC 100 u && !PyData.eqv (dD n ps) (.int 0)))
def usedS (n : Int) : Str := usedL.getD (n % 32).toNat ""
def calledS (n : Int) : Str := calledL.getD (n % 32).toNat ""
def instrD (n : Int) (ps : Mul) : Option PyData := if odd2 ps = true then none else if 17 ≤ n % 32 then none else if badU n ps (usedS n) = true then none else some (.tuple [.str (calledS n), .int (n / 32 % 8), .int (n / 256 % 8), dD n ps])
def spFields (K : PySem.W.Frag) (CS : Addr) (g : Int → Mul → Option PyData) : Sp := fun vs H Q E => ∃ v d, vs = [v] ∧ Th K H v d ∧ okSum d ∧ (∀ n ps, readSum d = some (n, ps) → Ab ps ∧ ∀ v' H', Same H H' → OptV K H' v' (g n ps) → Q v' H') ∧
  (readSum d = none → ∀ H' dx, Same H H' → H' dx = none → E (.ref CS) (some dx) (upd H' dx (.xd [("thing", v)])))
def spInstrIn (K : PySem.W.Frag) : Sp := fun vs H Q _ => ∃ v n ps, vs = [v] ∧ Dp K H v (sumD n ps) ∧ Ab ps ∧ ∀ v' H', Same H H' → OptV K H' v' (instrD n ps) → Q v' H'
abbrev sFields : Stmt := topS 23
abbrev sInstrIn : Stmt := topS 24
abbrev sInstr : Stmt := topS 25
theorem scFields : FnScope ["word"] ["word"] (defScope sFields) := ⟨rfl, rfl, rfl, by decide +kernel, rfl, by decide +kernel, by decide +kernel⟩
theorem scInstrIn : FnScope ["word", "found", "code", "x", "y", "d", "used"] ["word"] (defScope sInstrIn) := ⟨rfl, rfl, rfl, by decide +kernel, rfl, by decide +kernel, by decide +kernel⟩
theorem scInstr : FnScope ["word"] ["word"] (defScope sInstr) := ⟨rfl, rfl, rfl, by decide +kernel, rfl, by decide +kernel, by decide +kernel⟩
theorem tAnd_go {t u : TT} {σ : L2.St} {H : Hp} {Q : Bool → Hp → Prop} (a b : Bool) (ht : ∀ Q' : Bool → Hp → Prop, Q' a H → t σ H Q') (hu : ∀ Q' : Bool → Hp → Prop, Q' b H → u σ H Q') (q : Q (a && b) H) : tAnd t u σ H Q := by
  refine ht _ ?_
  cases a with
  | true => exact iteT (hu _ q)
  | false => exact iteF q
theorem tOr_go {t u : TT} {σ : L2.St} {H : Hp} {Q : Bool → Hp → Prop} (a b : Bool) (ht : ∀ Q' : Bool → Hp → Prop, Q' a H → t σ H Q') (hu : ∀ Q' : Bool → Hp → Prop, Q' b H → u σ H Q') (q : Q (a || b) H) : tOr t u σ H Q := by
  refine ht _ ?_
  cases a with
  | true => exact iteT q
  | false => exact iteF (hu _ q)
theorem shaped_int (i : Int) : SeqAt.shaped (.int i) = true := by simp [SeqAt.shaped, PyData.canLay0, PyData.depth]
theorem shaped_dD {ps : Mul} (h : Ab ps) (n : Int) : SeqAt.shaped (dD n ps) = true := by
  unfold dD
  split
  · exact shaped_int _
  · exact shaped_sum h.div _
theorem at_nat {α : Type} {xs : List α} {i : Int} {v : α} (h0 : 0 ≤ i) (h : xs[i.toNat]? = some v) : atI xs i = some v := by
  have h1 : i.toNat < xs.length := (List.getElem?_eq_some_iff.mp h).1
  unfold atI ixN
  rw [if_pos h0, if_pos (by omega)]
  exact h
theorem at_tab {l : List Str} {i : Int} (h0 : 0 ≤ i) (h1 : i.toNat < l.length) : atI (l.map V.str) i = some (.str (l.getD i.toNat "")) := by
  refine at_nat h0 ?_
  rw [List.getElem?_map, List.getElem?_eq_getElem h1, List.getD_eq_getElem?_getD, List.getElem?_eq_getElem h1]
  rfl
section
variable {P : Program} {w : World} {K : PySem.W.Frag} {mg : Str → Option Value} {base : Heap}
theorem ok_fields {f CS : Addr} {fd : FuncData} (F : Fun K "fields" "fields" sFields f fd) (G1 : Has P w K mg base (L2.CX P w) 6 "sum_of" ["thing"] (spSumOf K CS)) (G2 : Has P w K mg base CX0 6 "fields_in" ["word"] (spFieldsIn K)) : FnOk P w K mg base (L2.CX P w) 7 f fd ["word"] (spFields K CS fieldsD) := by
  refine F.okX scFields (fun vs H Q E h => ?_) (fun cdv A outer s H vs Q E hr h => ?_)
  · obtain ⟨v, d, rfl, _⟩ := h
    rfl
  · obtain ⟨v, d, rfl, th, ok, q, qe⟩ := h
    refine ⟨_, (pss_one (ps_ret (pe_callH G2 hr (by rfl) pass0 (pa_cons (pe_callH G1 hr (by rfl) (passes_call (W := fun cls d _ H => E cls d H) (takes_of rfl rfl rfl rfl) (fun _ _ _ _ h => h)) (pa_cons (pv 0) pa_nil)) pa_nil)))), ?_⟩
    refine ⟨_, rfl, v, d, rfl, th, ok, fun n ps e v' H1 s1 hv => ?_, fun e H1 dx s1 hdx => qe e H1 dx s1 hdx⟩
    obtain ⟨ab, q'⟩ := q n ps e
    exact ⟨v', n, ps, rfl, hv, Nat.le_trans ab.len (by decide), fun v2 H2 s2 h2 => q' v2 H2 (s1.trans s2) h2⟩
theorem ok_instr {f CS : Addr} {fd : FuncData} (F : Fun K "instruction" "instruction" sInstr f fd) (G1 : Has P w K mg base (L2.CX P w) 6 "sum_of" ["thing"] (spSumOf K CS)) (G2 : Has P w K mg base CX0 6 "instruction_in" ["word"] (spInstrIn K)) : FnOk P w K mg base (L2.CX P w) 7 f fd ["word"] (spFields K CS instrD) := by
  refine F.okX scInstr (fun vs H Q E h => ?_) (fun cdv A outer s H vs Q E hr h => ?_)
  · obtain ⟨v, d, rfl, _⟩ := h
    rfl
  · obtain ⟨v, d, rfl, th, ok, q, qe⟩ := h
    refine ⟨_, (pss_one (ps_ret (pe_callH G2 hr (by rfl) pass0 (pa_cons (pe_callH G1 hr (by rfl) (passes_call (W := fun cls d _ H => E cls d H) (takes_of rfl rfl rfl rfl) (fun _ _ _ _ h => h)) (pa_cons (pv 0) pa_nil)) pa_nil)))), ?_⟩
    refine ⟨_, rfl, v, d, rfl, th, ok, fun n ps e v' H1 s1 hv => ?_, fun e H1 dx s1 hdx => qe e H1 dx s1 hdx⟩
    obtain ⟨ab, q'⟩ := q n ps e
    exact ⟨v', n, ps, rfl, hv, ab, fun v2 H2 s2 h2 => q' v2 H2 (s1.trans s2) h2⟩
theorem ok_instrIn {f aC aU : Addr} {fd : FuncData} (F : Fun K "instruction_in" "instruction_in" sInstrIn f fd) (T : Bi mg) (B : Tabs K mg aC aU) (G : Has P w K mg base CX0 2 "fields_in" ["word"] (spFieldsIn K)) : FnOk P w K mg base CX0 3 f fd ["word"] (spInstrIn K) := by
  refine F.ok scInstrIn (fun vs H Q E h => ?_) (fun cdv A outer s H vs Q E hr h => ?_)
  · obtain ⟨v, n, ps, rfl, _⟩ := h
    rfl
  · obtain ⟨v, n, ps, rfl, hv, ab, q⟩ := h
    have hu64 := hr.units
    refine ⟨_, (pss_cons (ps_set (i := 1) scInstrIn.nd rfl (.inl rfl) (pe_callH G hr (by rfl) pass0 (pa_cons (pv 0) pa_nil)))
      (pss_cons (ps_if (PW.pt (pw_or (pt_cmpR op_isN (pv 1) pe_non (nomark _)) (pw_or1 (pt_cmpR op_ge (pe_ix ix_tup (pv 1) pe_int (fun _ _ => rfl)) (pe_callB call_len_seq (by rfl) T.len (by decide +kernel) (pa_cons (pe_glob (v := .ref aC) rfl B.gC rfl) pa_nil)) (nomark _))))) (pss_one (ps_ret pe_non)) pss_nil)
      (pss_cons (ps_asg (pv 1) (pg_tup rfl (pgs_cons (pg_name (i := 2) scInstrIn.nd rfl (.inl rfl)) (pgs_cons (pg_name (i := 3) scInstrIn.nd rfl (.inl rfl)) (pgs_cons (pg_name (i := 4) scInstrIn.nd rfl (.inl rfl)) (pgs_cons (pg_name (i := 5) scInstrIn.nd rfl (.inl rfl)) pgs_nil))))))
      (pss_cons (ps_set (i := 6) scInstrIn.nd rfl (.inl rfl) (pe_ix ix_tup (pe_glob (v := .ref aU) rfl B.gU rfl) (pv 2) (fun _ _ => rfl)))
      (pss_cons (ps_if (PW.pt (pw_or (PW.pt (pw_and (pt_cmpR op_notIn_sign pe_str (pv 6) (by rfl)) (pw_and1 (pt_cmpR op_ne (pv 3) pe_int (nomark _))))) (pw_or (PW.pt (pw_and (pt_cmpR op_notIn_sign pe_str (pv 6) (by rfl)) (pw_and1 (pt_cmpR op_ne (pv 4) pe_int (nomark _))))) (pw_or1 (PW.pt (pw_and (pt_cmpR op_notIn_sign pe_str (pv 6) (by rfl)) (pw_and1 (pt_cmpR (op_neD hu64) (pv 5) pe_int (nomark _))))))))) (pss_one (ps_ret pe_non)) pss_nil)
      (pss_one (ps_ret (pe_tup (pa_cons (pe_ix ix_tup (pe_glob (v := .ref aC) rfl B.gC rfl) (pv 2) (fun _ _ => rfl)) (pa_cons (pv 3) (pa_cons (pv 4) (pa_cons (pv 5) pa_nil)))))))))))), ?_⟩
    refine ⟨_, rfl, v, n, ps, rfl, hv, Nat.le_trans ab.len (by decide), fun v1 H1 s1 hv1 => ?_⟩
    have e0 : fieldsD n ps = none ∨ fieldsD n ps = some (.tuple [.int (n % 32), .int (n / 32 % 8), .int (n / 256 % 8), dD n ps]) := by
      unfold fieldsD
      split
      · exact .inl rfl
      · exact .inr rfl
    cases eo : odd2 ps with
    | true =>
      have ef : fieldsD n ps = none := by
        unfold fieldsD
        rw [if_pos eo]
      have ei : instrD n ps = none := by
        unfold instrD
        rw [if_pos eo]
      rw [ef] at hv1
      obtain rfl : v1 = .non := hv1
      refine ⟨_, rfl, rfl, _, rfl, iteT (iteT (q _ _ s1 ?_))⟩
      rw [ei]
      rfl
    | false =>
      have no : ¬ odd2 ps = true := by rw [eo]; exact Bool.noConfusion
      have ef : fieldsD n ps = some (.tuple [.int (n % 32), .int (n / 32 % 8), .int (n / 256 % 8), dD n ps]) := by
        unfold fieldsD
        rw [if_neg no]
      have ei : instrD n ps = if 17 ≤ n % 32 then none else if badU n ps (usedS n) = true then none else some (.tuple [.str (calledS n), .int (n / 32 % 8), .int (n / 256 % 8), dD n ps]) := by
        unfold instrD
        rw [if_neg no]
      rw [ef] at hv1
      obtain ⟨a, xs, rfl, hs, ha⟩ := th_tup (.dat hv1)
      cases ha with
      | cons h1 ha => cases ha with
      | cons h2 ha => cases ha with
      | cons h3 ha => cases ha with
      | cons h4 ha =>
      cases ha
      cases h1
      cases h2
      cases h3
      rename_i vd
      refine ⟨_, rfl, rfl, _, rfl, iteF ⟨_, rfl, a, _, _, _, rfl, rfl, hs, at_nat (by decide) rfl, aC, _, rfl, .inr (B.hC _), _, _, rfl, rfl, _, rfl, ?_⟩⟩
      have h0 : 0 ≤ n % 32 := Int.emod_nonneg _ (by decide)
      have el : ((calledL.map V.str).length : Int) = 17 := by rfl
      rw [el]
      by_cases c : 17 ≤ n % 32
      · rw [decide_eq_true c]
        refine iteT (q _ _ s1 ?_)
        rw [ei, if_pos c]
        rfl
      · rw [decide_eq_false c]
        rw [if_neg c] at ei
        refine iteF ?_
        refine ⟨_, rfl, a, _, rfl, hs, rfl, _, _, rfl, _, _, rfl, _, _, rfl, _, _, rfl, rfl, ?_⟩
        have hi17 : (n % 32).toNat < 17 := by omega
        refine ⟨_, rfl, aU, _, _, _, rfl, rfl, B.hU _, at_tab h0 (by show _ < 17; exact hi17), ?_⟩
        dsimp only [gName, tSeq, tIfS]
        refine tOr_go (!hasC 120 (usedS n) && !decide (n / 32 % 8 = 0)) ((!hasC 121 (usedS n) && !decide (n / 256 % 8 = 0)) || (!hasC 100 (usedS n) && !PyData.eqv (dD n ps) (.int 0))) (fun Q' h => ?_) (fun Q' h => ?_) ?_
        · refine tAnd_go _ _ (fun Q2 h2 => ⟨_, rfl, 120, _, rfl, rfl, _, rfl, h2⟩) (fun Q2 h2 => ⟨_, rfl, rfl, _, rfl, ?_⟩) h
          rw [eq_int]
          exact h2
        · refine tOr_go _ _ (fun Q3 h3 => ?_) (fun Q3 h3 => ?_) h
          · refine tAnd_go _ _ (fun Q2 h2 => ⟨_, rfl, 121, _, rfl, rfl, _, rfl, h2⟩) (fun Q2 h2 => ⟨_, rfl, rfl, _, rfl, ?_⟩) h3
            rw [eq_int]
            exact h2
          · exact tAnd_go _ _ (fun Q2 h2 => ⟨_, rfl, 100, _, rfl, rfl, _, rfl, h2⟩) (fun Q2 h2 => ⟨_, rfl, _, _, h4, .int 0, shaped_dD ab n, shaped_int 0, _, rfl, h2⟩) h3
        · cases eb : badU n ps (usedS n) with
          | true =>
            rw [eb, if_pos rfl] at ei
            have eb' := eb
            unfold badU at eb'
            rw [eb']
            refine iteT (q _ _ s1 ?_)
            rw [ei]
            rfl
          | false =>
            rw [eb, if_neg Bool.false_ne_true] at ei
            have eb' := eb
            unfold badU at eb'
            rw [eb']
            refine iteF ⟨_, rfl, aC, _, _, _, rfl, rfl, B.hC _, at_tab h0 (by show _ < 17; exact hi17), _, rfl, _, rfl, _, rfl, (by show 4 ≤ sizeLine; decide), fun p hp => ?_⟩
            refine q _ _ (s1.trans (same_new hp)) ?_
            rw [ei]
            exact .tup (SqT.of upd_same) (.cons (.str _) (.cons (.int _) (.cons (.int _) (.cons (dp_same (same_new hp) h4) .nil))))
end

/-! ### try with several clauses that name the error -/
abbrev Suite := Addr → Value → Option Addr → TS
def wAll (K : PySem.W.Frag) (out : WX) (D : Ends) : List (Value × Nat × Suite) → WX
  | [] => out
  | (c, i, ts) :: more => fun cls d σ H => ∃ yes, PySem.W.exmOne K cls c = some yes ∧
      (yes = true → ∀ e, H e = none → ts e cls d ⟨fun σ1 H1 => D.nx (σ1.set i none) H1, D.rt, fun σ1 H1 => D.bk (σ1.set i none) H1, fun σ1 H1 => D.ct (σ1.set i none) H1⟩ (σ.set i (some (.ref e))) H) ∧ (yes = false → wAll K out D more cls d σ H)
inductive Clauses (X : Cx) : List ExceptHandler → List (Value × Nat × Suite) → Prop
  | none : Clauses X [] []
  | more {x nm : Str} {c : Value} {i : Nat} {ts : Suite} {st : Stmt} {sts : List Stmt} {q1 q2 : Pos} {hds : List ExceptHandler} {l : List (Value × Nat × Suite)} (hi : X.N[i]? = some nm) (hl : X.env.kindOf nm = some .local) (hc : Names X x c)
      (hs : ∀ (e : Addr) (oe : Obj) (cls : Value) (d : Option Addr) (pn : List (Addr × Obj)), Zc cls d oe → (∃ fs, oe.data = .fields fs) → PSs (X.suite e ((e, oe) :: pn)) (st :: sts) (ts e cls d)) (rest : Clauses X hds l) :
      Clauses X (.ExceptHandler (some (.Name x q1)) (some nm) (st :: sts) q2 :: hds) ((c, i, ts) :: l)
theorem ps_tryN {X : Cx} {body : List Stmt} {h0 : ExceptHandler} {hds : List ExceptHandler} {l : List (Value × Nat × Suite)} {pos : Pos} {tb : WX → TS} {out : WX} (e1 : X.stack = X.env :: X.outer) (e2 : X.env.frame = some X.env.locals) (nd : X.N.Nodup) (tk : Takes X out)
    (hb : ∀ (W : WX) (pn : List (Addr × Obj)) (xe : Value → Shared → Prop), Takes (X.tr pn xe) W → PassesOwn (model X.prog X.w) X.A X.env xe → PSs (X.tr pn xe) body (tb W))
    (hh : Clauses X (h0 :: hds) l) : PS X (.Try body (h0 :: hds) [] [] pos) (fun D σ H => tb (wAll X.K out D l) D σ H) := by
  constructor
  intro pins s σ H D I h
  have okX := I.ok
  have fr : X.A.frames = some (X.env :: X.outer) := okX.frames.trans (by rw [e1])
  refine wpAny_Try_except (wpAny_mono ((hb (wAll X.K out D l) (X.pn ++ pins) (fun ev s₁ => wpAny (model X.prog X.w) X.A (noteFrame ev X.env) (fun _ s₂ => wpAny (model X.prog X.w) X.A (setFlight ev none) (fun _ s₃ =>
      wpAny (model X.prog X.w) X.A (handleBy ev X.env (h0 :: hds)) (SP X pins D) X.xe s₃) X.xe s₂) X.xe s₁) ?caught PassesOwn.looking).run [] s σ H D (I.toTry _) h) ?through fun _ _ z => z)
  case through =>
    intro fl s1 hsp
    cases fl with
    | next => exact let ⟨σ1, H1, J, q⟩ := hsp; wpAny_execs_nil ⟨σ1, H1, J.ofTry okX, q⟩
    | brk => exact let ⟨σ1, H1, J, q⟩ := hsp; ⟨σ1, H1, J.ofTry okX, q⟩
    | cont => exact let ⟨σ1, H1, J, q⟩ := hsp; ⟨σ1, H1, J.ofTry okX, q⟩
    | ret u => exact let ⟨v, σ1, H1, J, r, q⟩ := hsp; ⟨v, σ1, H1, J.ofTry okX, r, q⟩
  case caught =>
    intro u s1 flying
    obtain ⟨a, B, sI, pins1, σ1, H1, cls, d, rfl, J0, nb, up, sky, na, os, ag, wish⟩ := flying
    have J : Inv X pins σ1 H1 sI := J0.ofTry okX
    refine Sky.land (A := X.A) (env := X.env) (outer := X.outer) (L := X.env.locals) Zc.steady fr e2 (by rw [← e1]; exact sky) fun h3 fl3 up3 => ?_
    have J3 : Inv X pins σ1 H1 { s1 with heap := h3 } := J.landed nb fl3.1 (up.trans up3) os ag
    obtain ⟨o3, w3, g3, z3, d3⟩ := fl3.there
    have out_of : a ∉ frs (X.env :: X.outer) := fun hm => by
      obtain ⟨_, ob, g, notf⟩ := fl3.2.2.1.mem hm
      have same : o3 = ob := Option.some.inj (g3.symm.trans g)
      rw [same] at d3
      exact notf _ d3
    have nL : a ≠ X.env.locals := fun z => out_of (List.mem_filterMap.mpr ⟨X.env, .head _, e2.trans (by rw [z])⟩)
    have nF : a ∉ X.fs := fun hm => let ⟨e, he, q⟩ := List.mem_filterMap.mp hm; out_of (List.mem_filterMap.mpr ⟨e, .tail _ he, q⟩)
    have S3 := J3.suite g3 d3 na nL nF
    have each : ∀ {hs' : List ExceptHandler} {l' : List (Value × Nat × Suite)}, Clauses X hs' l' → wAll X.K out D l' cls d σ1 H1 → wpAny (model X.prog X.w) X.A (handleBy (.ref a) X.env hs') (SP X pins D) X.xe { s1 with heap := h3 } := by
      intro hs' l' C
      induction C with
      | none =>
        intro wo
        obtain ⟨k1, k2, k3, oe, vs, TB, oT, ts', he, hz, hd, ht, hr⟩ := id fl3
        have thrown : wpAny (model X.prog X.w) X.A (setFlight (.ref a) X.env.frame) (fun _ s4 => wpAny (model X.prog X.w) X.A (throw (.ref a) : Sem Flow) (SP X pins D) X.xe s4) X.xe { s1 with heap := h3 } := by
          rw [e2]
          refine HandSPX.setFlight_upZ fl3 fun h4 held up4 => wpAny_throw (tk _ _ ⟨a, B, sI, pins, σ1, H1, cls, d, rfl, J, nb, (up.trans up3).trans up4, .inr (.inr ?_), na, os, ag, wo⟩)
          rw [e1]
          exact held
        refine wpAny_handleBy_nil ?_
        unfold PySem.passOn
        refine wpAny_bind (wpAny_field he hd ht ?_)
        rw [if_neg (by simp : ¬ ((Value.ref TB == Value.none) = true))]
        first | exact wpAny_bind (wpAny_pure (wpAny_bind thrown)) | exact wpAny_bind thrown
      | @more x nm c i ts st sts q1 q2 hds2 l2 hi hl hc hs rest ih =>
        intro wo
        obtain ⟨yes, hy, on, off⟩ := wo
        have LM := PySem.W.exm_one (M := model X.prog X.w) J3.kIn (fun A Q E s k q => wpAny_typeOf_ref (k _ _ g3) (by rw [z3.1]; exact q)) hy
        have named : ∀ {Q : Value → Shared → Prop} {E : Value → Shared → Prop}, Q c { s1 with heap := h3 } → wpAny (model X.prog X.w) (X.A.mark (some (.ref a))) (eval (.Name x q1) X.env) Q E { s1 with heap := h3 } := fun {Q E} q => by
          obtain ⟨gl, dbg, m1 | ⟨m1, m2, m3⟩⟩ := hc
          · exact ld_glob (X := X.suite a ((a, o3) :: (X.pn ++ pins))) S3 gl m1 q dbg
          · exact ld_blt (X := X.suite a ((a, o3) :: (X.pn ++ pins))) S3 gl m1 m2 q m3 dbg
        refine wpAny_handleBy_cons (codeAny_handlers_test (named (LM.here ?_))) (by intro q; cases q)
        cases yes with
        | false => exact ih (off rfl)
        | true =>
          refine codeAny_handlers_suite_as (HandSPX.lands_againZ fl3 fun h4 fl4 up4 => ?_)
          obtain ⟨o4, w4, g4, z4, d4⟩ := fl4.there
          have J4 : Inv X pins σ1 H1 { s1 with heap := h4 } := J.landed nb fl4.1 ((up.trans up3).trans up4) os ag
          refine store_ok (X := X.suite a ((a, o4) :: (X.pn ++ pins))) (v := .ref a) (J4.suite g4 d4 na nL nF) nd hi (.inl hl) rfl (fun s5 S5 => ?_) (.inr hl)
          refine wpAny_mono ((hs a o4 cls d (X.pn ++ pins) z4 ⟨_, d4⟩).run [] s5 _ H1 _ S5 (on rfl a na)) (fun fl s6 hsp => ?_) fun _ _ z => z.elim
          have gone : ∀ {σ6 : L2.St} {H6 : Hp} {Q : Shared → Prop}, Inv (X.suite a ((a, o4) :: (X.pn ++ pins))) [] σ6 H6 s6 → (∀ s7, Inv X pins (σ6.set i Option.none) H6 s7 → Q s7) →
              wpAny (model X.prog X.w) X.A (do bindName X.env nm .none; unbindBehindTheSuite X.env nm q2) (fun _ s7 => Q s7) X.xe s6 := fun S6 k => gone_ok (S6.unsuite okX) nd hi hl k
          cases fl with
          | next => exact let ⟨_, _, S6, q6⟩ := hsp; gone S6 fun s7 J7 => ⟨_, _, J7, q6⟩
          | brk => exact let ⟨_, _, S6, q6⟩ := hsp; gone S6 fun s7 J7 => ⟨_, _, J7, q6⟩
          | cont => exact let ⟨_, _, S6, q6⟩ := hsp; gone S6 fun s7 J7 => ⟨_, _, J7, q6⟩
          | ret u => exact let ⟨_, _, _, S6, r6, q6⟩ := hsp; gone S6 fun s7 J7 => ⟨_, _, _, J7, r6, q6⟩
    exact each hh wish

/-! ### _law_met -/
abbrev sMet : Stmt := topS 34
theorem scMet : FnScope ["ask", "e"] ["ask"] (defScope sMet) := ⟨rfl, rfl, rfl, by decide +kernel, rfl, by decide +kernel, by decide +kernel⟩
/-- what an error of the class at C with the field f comes to -/
def CaughtAs (C : Addr) (f told : Str) (Q : VK) (cls : Value) (d : Option Addr) (H : Hp) : Prop := ∃ (dd : Addr) (v : V), cls = .ref C ∧ d = some dd ∧ H dd = some (.xd [(f, v)]) ∧ ∀ p, H p = none → Q (.ref p) (upd H p (.tup [.str told, v]))
def MetE (CF CS : Addr) (Q : VK) : XK := fun cls d H => CaughtAs CF "name" "field" Q cls d H ∨ CaughtAs CS "thing" "sum" Q cls d H
def TMet (CF CS : Addr) : (XK → Hp → VK → Prop) → Hp → VK → Prop := fun tl H Q => tl (MetE CF CS Q) H fun v H1 => 2 ≤ sizeLine ∧ ∀ p, H1 p = none → Q (.ref p) (upd H1 p (.tup [.str "told", v]))
theorem takes_len {X : Cx} {W W' : WX} (tk : Takes X W) (h : ∀ cls d σ H, σ.length = X.N.length → W' cls d σ H → W cls d σ H) : Takes X W' := fun u s' x => by
  obtain ⟨a, B, sI, pins, σ, H, cls, d, e, I, r1, r2, r3, r4, r5, r6, w⟩ := x
  exact tk u s' ⟨a, B, sI, pins, σ, H, cls, d, e, I, r1, r2, r3, r4, r5, r6, h cls d σ H I.len w⟩
theorem set_one {σ : L2.St} {v : V} (h : σ.length = 2) : (σ.set 1 (some v))[1]? = some (some v) := by
  rw [List.getElem?_set_self (by omega)]
theorem met_gives {X : Cx} {g CF CS : Addr} {cdg : Value} {q : Str} (mF : X.mg "BadField" = some (.ref CF)) (mS : X.mg "BadSum" = some (.ref CS)) (tF : PySem.W.exmOne X.K (.ref CF) (.ref CF) = some true) (tSF : PySem.W.exmOne X.K (.ref CS) (.ref CF) = some false)
    (tS : PySem.W.exmOne X.K (.ref CS) (.ref CS) = some true) (xF : XfC X.K CF) (xS : XfC X.K CS) (nF : PySem.W.findIn X.K (.ref CF) "name" = some none) (nS : PySem.W.findIn X.K (.ref CS) "thing" = some none) :
    LamX.GivesTo X ["ask", "e"] "_law_met" (defScope sMet) g cdg (defBody sMet) "ask" q (TMet CF CS) := by
  intro f c' s H Q tl act hc h
  refine ⟨_, pss_one (ps_tryN (X := (cxOf C8.CX0 X.prog X.w X.K X.mg X.base ["ask", "e"] "_law_met" (defScope sMet) g cdg X.A X.stack s H C8.E0).nox) (out := fun _ _ _ _ => False)
      (tb := fun W D σ H => ∃ Ech : XK, (∀ cls d σ' H', σ'.length = 2 → Ech cls d H' → W cls d σ' H') ∧ σ[0]? = some (some (.ref f)) ∧ H c' = some (LamX.CodeO c' q) ∧ tl Ech H fun v H1 => 2 ≤ sizeLine ∧ ∀ p, H1 p = none → D.rt (.ref p) (upd H1 p (.tup [.str "told", v])))
      rfl rfl scMet.nd LamX.takes0 (fun W pn xe tk _ => ?_)
      (.more (i := 1) (c := .ref CF) rfl rfl ⟨rfl, by decide, .inl mF⟩ (fun e oe cls d pn hz hf => pss_one (ps_ret (pe_tup (pa_cons pe_str (pa_cons (by exact pe_xf xF nF hz hf (pv 1)) pa_nil)))))
      (.more (i := 1) (c := .ref CS) rfl rfl ⟨rfl, by decide, .inl mS⟩ (fun e oe cls d pn hz hf => pss_one (ps_ret (pe_tup (pa_cons pe_str (pa_cons (by exact pe_xf xS nS hz hf (pv 1)) pa_nil))))) .none))), ?_⟩
  · refine ⟨fun pins s' σ H' D I h' => ?_⟩
    obtain ⟨Ech, hW, h1, h2, h3⟩ := h'
    exact (pss_one (ps_ret (pe_tup (pa_cons pe_str (pa_cons (act (fun cls d _ H => Ech cls d H) pn xe Ech _ _ (takes_len tk fun cls d σ H hl h => hW cls d σ H hl h) (fun _ _ _ _ h => h)) pa_nil))))).run pins s' σ H' D I ⟨h1, h2, h3⟩
  · refine ⟨MetE CF CS Q, fun cls d σ' H' hl hm => ?_, rfl, hc, h⟩
    rcases hm with ⟨dd, v, rfl, rfl, hd, k⟩ | ⟨dd, v, rfl, rfl, hd, k⟩
    · refine ⟨true, tF, fun _ e he => ?_, fun z => Bool.noConfusion z⟩
      exact ⟨_, set_one hl, rfl, rfl, dd, _, v, rfl, hd, by simp [List.lookup], (by show 2 ≤ sizeLine; decide), k⟩
    · refine ⟨false, tSF, fun z => Bool.noConfusion z, fun _ => ⟨true, tS, fun _ e he => ?_, fun z => Bool.noConfusion z⟩⟩
      exact ⟨_, set_one hl, rfl, rfl, dd, _, v, rfl, hd, by simp [List.lookup], (by show 2 ≤ sizeLine; decide), k⟩

/-! ### the two comprehensions over the parts of a sum -/
abbrev rMd : R2 := rI (fun _ j => 0 < j) fun i j => .int (i % j)
abbrev rDv : R2 := rI CDiv fun i j => .int (i / j)
abbrev rTupOf (K : PySem.W.Frag) : List V → Hp → VK → Prop := fun xs H Q => ∃ p ys, xs = [.ref p] ∧ ((SqL K H p ys ∧ ∀ l, H l = none → Q (.ref l) (upd H l (.tup ys))) ∨ (SqT K H p ys ∧ Q (.ref p) H))
theorem any_go {K : PySem.W.Frag} {σ : L2.St} {H : Hp} {Q : VK} {te : TE} {a b : Nat} {vs : List Nat} {pb : Addr} {ys : List V} {ps : Mul} (hte : ∀ R : V → Hp → Prop, R (.ref pb) H → te σ H R) (hb : SqT K H pb ys) (hby : DpAll K H ys (ps.map partD)) (hl : ps.length ≤ 1000)
    (hset : ∀ v w : V, (((wipe σ vs).set a (some v)).set b (some w))[b]? = some (some w)) (hw : ∀ v w : V, wipe (((wipe σ vs).set a (some v)).set b (some w)) vs = wipe σ vs) (q : ∀ H', Same H H' → Q (.bl (odd2 ps)) H') :
    tCB (rAny K) (tCons (tLc (iTup K te) (gTup K 2 (gCons (gName a) (gCons (gName b) gNil))) tYes (tOp rNe (tOp rMd (tVar b) (tC (.int 2048))) (tC (.int 0))) vs) tNil) σ H Q := by
  have ly : ys.length = ps.length := by rw [dps_len hby, List.length_map]
  refine hte _ ⟨pb, rfl, ⟨_, hb⟩, fun D hD => ?_⟩
  refine lc_it (walk_tup (xs := ys)) (fun i H1 => (∀ c o, c ≠ D → H c = some o → H1 c = some o) ∧ H1 D = some (.lst (((ps.take i).map fun p => !decide (p.2 % 2048 = 0)).map V.bl)))
    ⟨fun c o hc e => by rw [upd_ne hc]; exact e, upd_same⟩ (fun i H1 _ ⟨kp, _⟩ => sqT_same (fun c o e => kp c o (ne_of_none e hD) e) hb) ?_ ?_
  · rintro i x H1 H1' hi ⟨kp, hd⟩ ⟨rfl, hx⟩
    have smi : Same H H1' := fun c o e => kp c o (ne_of_none e hD) e
    obtain ⟨u, m, hm, hxp⟩ := dps_mapget hby hx
    obtain ⟨c, y, rfl, hc, hy⟩ := dp_part (dp_same smi hxp)
    refine ⟨c, _, rfl, hc, rfl, _, _, rfl, _, _, rfl, rfl, ?_⟩
    refine ⟨hw _ _, yes_go (iteT ⟨_, hset _ _, _, _, rfl, rfl, (by show (0 : Int) < 2048; decide), rfl, _, hd, ?_, fun c o hc e => ?_, ?_⟩)⟩
    · rw [List.length_map, List.length_map, List.length_take]
      exact Nat.lt_of_le_of_lt (Nat.min_le_right _ _) (small1000 (by omega))
    · rw [upd_ne hc]
      exact kp c o hc e
    · rw [upd_same, List.take_add_one, hm, eq_int]
      simp
  · rintro H1 ⟨kp, hd⟩
    rw [ly, List.take_length] at hd
    exact ⟨D, _, rfl, SqL.of hd, q H1 fun c o e => kp c o (ne_of_none e hD) e⟩
theorem far_go {K : PySem.W.Frag} {σ : L2.St} {H : Hp} {Q : VK} {te : TE} {a b : Nat} {vs : List Nat} {pb : Addr} {ys : List V} {ps : Mul} (hte : ∀ R : V → Hp → Prop, R (.ref pb) H → te σ H R) (hb : SqT K H pb ys) (hby : DpAll K H ys (ps.map partD)) (hl : ps.length ≤ 1000)
    (hsa : ∀ v w : V, (((wipe σ vs).set a (some v)).set b (some w))[a]? = some (some v)) (hset : ∀ v w : V, (((wipe σ vs).set a (some v)).set b (some w))[b]? = some (some w)) (hw : ∀ v w : V, wipe (((wipe σ vs).set a (some v)).set b (some w)) vs = wipe σ vs)
    (q : ∀ v H', Same H H' → Dp K H' v (.tuple ((div2 ps).map partD)) → Q v H') :
    tCB (rTupOf K) (tCons (tLc (iTup K te) (gTup K 2 (gCons (gName a) (gCons (gName b) gNil))) tYes (tTup (tCons (tVar a) (tCons (tOp rDv (tVar b) (tC (.int 2048))) tNil))) vs) tNil) σ H Q := by
  have ly : ys.length = ps.length := by rw [dps_len hby, List.length_map]
  refine hte _ ⟨pb, rfl, ⟨_, hb⟩, fun D2 hD2 => ?_⟩
  refine lc_it (walk_tup (xs := ys)) (fun i H4 => (∀ c o, c ≠ D2 → H c = some o → H4 c = some o) ∧ ∃ zs, H4 D2 = some (.lst zs) ∧ zs.length = i ∧ DpAll K (wo H4 D2) zs (((div2 ps).take i).map partD))
    ⟨fun c o hc e => by rw [upd_ne hc]; exact e, [], upd_same, rfl, .nil⟩ (fun i H4 _ ⟨kp, _⟩ => sqT_same (fun c o e => kp c o (ne_of_none e hD2) e) hb) ?_ ?_
  · rintro i x H4 H4' hi ⟨kp4, zs, h4D, hzl, hzd⟩ ⟨rfl, hx⟩
    have smi : Same H (wo H4' D2) := fun c o e => by
      have hc := ne_of_none e hD2
      rw [wo_ne hc]
      exact kp4 c o hc e
    obtain ⟨u, m, hm, hxp⟩ := dps_mapget hby hx
    obtain ⟨c, y, rfl, hc, hy⟩ := dp_part (dp_same smi hxp)
    refine ⟨c, _, rfl, sqT_same wo_same hc, rfl, _, _, rfl, _, _, rfl, rfl, ?_⟩
    refine ⟨hw _ _, yes_go (iteT ⟨_, hsa _ _, _, hset _ _, _, _, rfl, rfl, ⟨by decide, by decide⟩, (by show 2 ≤ sizeLine; decide), fun t ht => ⟨zs, ?_, small1000 (by omega), ?_, zs ++ [.ref t], upd_same, by simp; omega, ?_⟩⟩)⟩
    · rw [upd_ne (ne_of_none h4D ht)]
      exact h4D
    · intro c o hc e
      rw [upd_ne hc, upd_ne (ne_of_none (kp4 c o hc e) ht)]
      exact kp4 c o hc e
    · have tD : t ≠ D2 := fun z => by rw [z, h4D] at ht; cases ht
      have hdm : (div2 ps)[i]? = some (u, m / 2048) := by
        unfold div2
        rw [List.getElem?_map, hm]
        rfl
      rw [wo_self, List.take_add_one, hdm]
      simp only [Option.toList_some, List.map_append, List.map_cons, List.map_nil]
      refine dps_snoc ?_ (dps_same (wo_new ht tD) hzd)
      have et : wo (upd H4' t (.tup [y, .int (m / 2048)])) D2 t = some (.tup [y, .int (m / 2048)]) := by rw [wo_ne tD, upd_same]
      exact .tup (SqT.of et) (.cons (dp_same (wo_new ht tD) hy) (.cons (.int _) .nil))
  · rintro H4 ⟨kp4, zs, h4D, hzl, hzd⟩
    have ldv : (div2 ps).length = ps.length := List.length_map _
    rw [ly, ← ldv, List.take_length] at hzd
    refine ⟨D2, zs, rfl, .inl ⟨SqL.of h4D, fun l hl4 => ?_⟩⟩
    have s4 : Same H H4 := fun c o e => kp4 c o (ne_of_none e hD2) e
    have s5 := same_new (o := .tup zs) hl4
    exact q _ _ (s4.trans s5) (.tup (SqT.of upd_same) (dps_same (wo_same.trans s5) hzd))
/-! ### _law_first_bad -/
def spFirstBad (K : PySem.W.Frag) : Sp := fun vs H Q _ => ∃ v1 v2 v3 v4 d1 d2 d3 d4, vs = [v1, v2, v3, v4] ∧ Th K H v1 d1 ∧ Th K H v2 d2 ∧ Th K H v3 d3 ∧ Th K H v4 d4 ∧ Q (match badF d1 d2 d3 d4 with | none => .non | some s => .str s) H
abbrev sFirstBad : Stmt := topS 35
theorem scFirstBad : FnScope ["code", "x", "y", "d"] ["code", "x", "y", "d"] (defScope sFirstBad) := ⟨rfl, rfl, rfl, by decide +kernel, rfl, by decide +kernel, by decide +kernel⟩
theorem bad_go {K : PySem.W.Frag} {σ : L2.St} {H : Hp} {Q : Bool → Hp → Prop} {v : V} {d : PyData} {i : Nat} {m : Int} (k : Int) (hk : m - 1 = k) (hs : σ[i]? = some (some v)) (th : Th K H v d) (q : Q (!upTo d k) H) :
    tOr (tNot (tB (tCB (rIsi K) (tCons (tVar i) (tCons (tC (.ty "int")) tNil))))) (tOr (tB (tCB (rIsi K) (tCons (tVar i) (tCons (tC (.ty "bool")) tNil)))) (tNot (tTest (tChain (rI0 fun i j => .bl (decide (i ≤ j))) (rI0 fun i j => .bl (decide (i < j))) (tC (.int 0)) (tVar i) (tC (.int m)))))) σ H Q := by
  subst hk
  refine ⟨_, hs, v, _, _, _, _, rfl, .ty "int", th_ty th, kit_int d, _, rfl, ?_⟩
  cases d with
  | int n =>
    obtain rfl : v = .int n := by
      cases th with
      | dat h => cases h; rfl
    refine iteF ⟨_, hs, _, _, _, _, _, rfl, .ty "bool", th_ty th, kit_bool _, _, rfl, iteF ⟨_, hs, _, _, rfl, rfl, _, rfl, ?_⟩⟩
    have z : upTo (.int n) (m - 1) = (decide (0 ≤ n) && decide (n ≤ m - 1)) := rfl
    rw [z] at q
    cases c : decide (0 ≤ n) with
    | false =>
      rw [c] at q
      exact iteF ⟨_, rfl, q⟩
    | true =>
      rw [c] at q
      refine iteT ⟨_, _, rfl, rfl, _, rfl, ?_⟩
      have e : decide (n < m) = decide (n ≤ m - 1) := by
        by_cases h : n < m
        · rw [decide_eq_true h, decide_eq_true (by omega)]
        · rw [decide_eq_false h, decide_eq_false (by omega)]
      rw [e]
      exact q
  | bool b => exact iteF ⟨_, hs, _, _, _, _, _, rfl, .ty "bool", th_ty th, kit_bool _, _, rfl, iteT q⟩
  | none => exact iteT q
  | str s => exact iteT q
  | list xs => exact iteT q
  | tuple xs => exact iteT q
  | dict xs => exact iteT q
section
variable {P : Program} {w : World} {K : PySem.W.Frag} {mg : Str → Option Value} {base : Heap}
theorem ok_firstBad {f : Addr} {fd : FuncData} (F : Fun K "_law_first_bad" "_law_first_bad" sFirstBad f fd) (T : Bi mg) : FnOk P w K mg base CX0 1 f fd ["code", "x", "y", "d"] (spFirstBad K) := by
  refine F.ok scFirstBad (fun vs H Q E h => ?_) (fun cdv A outer s H vs Q E hr h => ?_)
  · obtain ⟨v1, v2, v3, v4, d1, d2, d3, d4, rfl, _⟩ := h
    rfl
  · obtain ⟨v1, v2, v3, v4, d1, d2, d3, d4, rfl, t1, t2, t3, t4, q⟩ := h
    refine ⟨_, (pss_cons (ps_if (PW.pt (pw_or (pt_not (pt_val (pe_callB call_isi (by rfl) T.isinstance (by decide +kernel) (pa_cons (pv 0) (pa_cons (pe_bltn (v := .ty "int") (by rfl) T.int (by decide +kernel) rfl) pa_nil))))) (pw_or (pt_val (pe_callB call_isi (by rfl) T.isinstance (by decide +kernel) (pa_cons (pv 0) (pa_cons (pe_bltn (v := .ty "bool") (by rfl) T.bool (by decide +kernel) rfl) pa_nil)))) (pw_or1 (pt_not (pt_chain op_le op_lt pe_int (pv 0) pe_int)))))) (pss_one (ps_ret pe_str)) pss_nil)
      (pss_cons (ps_if (PW.pt (pw_or (pt_not (pt_val (pe_callB call_isi (by rfl) T.isinstance (by decide +kernel) (pa_cons (pv 1) (pa_cons (pe_bltn (v := .ty "int") (by rfl) T.int (by decide +kernel) rfl) pa_nil))))) (pw_or (pt_val (pe_callB call_isi (by rfl) T.isinstance (by decide +kernel) (pa_cons (pv 1) (pa_cons (pe_bltn (v := .ty "bool") (by rfl) T.bool (by decide +kernel) rfl) pa_nil)))) (pw_or1 (pt_not (pt_chain op_le op_lt pe_int (pv 1) pe_int)))))) (pss_one (ps_ret pe_str)) pss_nil)
      (pss_cons (ps_if (PW.pt (pw_or (pt_not (pt_val (pe_callB call_isi (by rfl) T.isinstance (by decide +kernel) (pa_cons (pv 2) (pa_cons (pe_bltn (v := .ty "int") (by rfl) T.int (by decide +kernel) rfl) pa_nil))))) (pw_or (pt_val (pe_callB call_isi (by rfl) T.isinstance (by decide +kernel) (pa_cons (pv 2) (pa_cons (pe_bltn (v := .ty "bool") (by rfl) T.bool (by decide +kernel) rfl) pa_nil)))) (pw_or1 (pt_not (pt_chain op_le op_lt pe_int (pv 2) pe_int)))))) (pss_one (ps_ret pe_str)) pss_nil)
      (pss_one (ps_ret (pe_ifExp (PW.pt (pw_and (pt_val (pe_callB call_isi (by rfl) T.isinstance (by decide +kernel) (pa_cons (pv 3) (pa_cons (pe_bltn (v := .ty "int") (by rfl) T.int (by decide +kernel) rfl) pa_nil)))) (pw_and1 (pt_not (pt_val (pe_callB call_isi (by rfl) T.isinstance (by decide +kernel) (pa_cons (pv 3) (pa_cons (pe_bltn (v := .ty "bool") (by rfl) T.bool (by decide +kernel) rfl) pa_nil)))))))) pe_non pe_str)))))), ?_⟩
    unfold badF at q
    refine bad_go 31 (by decide) rfl t1 ?_
    cases e1 : upTo d1 31 with
    | false =>
      rw [if_pos e1] at q
      exact iteT q
    | true =>
    rw [if_neg (by rw [e1]; exact Bool.noConfusion)] at q
    refine iteF (bad_go 7 (by decide) rfl t2 ?_)
    cases e2 : upTo d2 7 with
    | false =>
      rw [if_pos e2] at q
      exact iteT q
    | true =>
    rw [if_neg (by rw [e2]; exact Bool.noConfusion)] at q
    refine iteF (bad_go 7 (by decide) rfl t3 ?_)
    cases e3 : upTo d3 7 with
    | false =>
      rw [if_pos e3] at q
      exact iteT q
    | true =>
    rw [if_neg (by rw [e3]; exact Bool.noConfusion)] at q
    refine iteF ⟨_, rfl, v4, _, _, _, _, rfl, .ty "int", th_ty t4, kit_int d4, _, rfl, ?_⟩
    cases d4 with
    | int n => exact iteT ⟨_, rfl, _, _, _, _, _, rfl, .ty "bool", th_ty t4, kit_bool _, _, rfl, iteT q⟩
    | bool b => exact iteT ⟨_, rfl, _, _, _, _, _, rfl, .ty "bool", th_ty t4, kit_bool _, _, rfl, iteF q⟩
    | none => exact iteF (iteF q)
    | str s => exact iteF (iteF q)
    | list xs => exact iteF (iteF q)
    | tuple xs => exact iteF (iteF q)
    | dict xs => exact iteF (iteF q)
end

def rowD (n : Int) (ps : Mul) : Option PyData := if odd2 ps = true then none else if 16 < n % 32 then none else
  if ((!hasC 120 (usedS n) && !decide (n / 32 % 8 = 0)) || (!hasC 121 (usedS n) && !decide (n / 256 % 8 = 0))) = true then none else
  if (!hasC 100 (usedS n) && (!decide (n / 2048 = 0) || !decide (ps = []))) = true then none else some (.tuple [.str (calledS n), .int (n / 32 % 8), .int (n / 256 % 8), sumD (n / 2048) (div2 ps)])
theorem eqv_dD (n : Int) (ps : Mul) : PyData.eqv (dD n ps) (.int 0) = (decide (n / 2048 = 0) && decide (ps = [])) := by
  unfold dD
  split
  · rename_i h
    rw [h]
    show (n / 2048 == 0) = _
    simp
    rfl
  · rename_i h
    rw [decide_eq_false h, Bool.and_false]
    rfl
/-- told by the law's own row -/
def toldD (n : Int) (ps : Mul) (r : Option PyData) : Option PyData := r.map fun _ => .tuple [.str (calledS n), .int (n / 32 % 8), .int (n / 256 % 8), dD n ps]
theorem told_row (n : Int) (ps : Mul) : instrD n ps = toldD n ps (rowD n ps) := by
  unfold instrD rowD
  by_cases h1 : odd2 ps = true
  · rw [if_pos h1, if_pos h1]
    rfl
  · rw [if_neg h1, if_neg h1]
    by_cases h2 : 17 ≤ n % 32
    · rw [if_pos h2, if_pos (show 16 < n % 32 by omega)]
      rfl
    · rw [if_neg h2, if_neg (show ¬ 16 < n % 32 by omega)]
      have e : badU n ps (usedS n) = (((!hasC 120 (usedS n) && !decide (n / 32 % 8 = 0)) || (!hasC 121 (usedS n) && !decide (n / 256 % 8 = 0))) || (!hasC 100 (usedS n) && (!decide (n / 2048 = 0) || !decide (ps = [])))) := by
        unfold badU
        rw [eqv_dD, Bool.not_and, Bool.or_assoc]
      rw [e]
      cases ((!hasC 120 (usedS n) && !decide (n / 32 % 8 = 0)) || (!hasC 121 (usedS n) && !decide (n / 256 % 8 = 0))) with
      | true =>
        rw [Bool.true_or, if_pos rfl, if_pos rfl]
        rfl
      | false =>
        rw [Bool.false_or, if_neg Bool.false_ne_true]
        cases (!hasC 100 (usedS n) && (!decide (n / 2048 = 0) || !decide (ps = []))) with
        | true =>
          rw [if_pos rfl, if_pos rfl]
          rfl
        | false =>
          rw [if_neg Bool.false_ne_true, if_neg Bool.false_ne_true]
          rfl
theorem shaped_parts {ps : Mul} (h : Ab ps) : SeqAt.shaped (.tuple (ps.map partD)) = true := by
  cases h <;> simp [SeqAt.shaped, partD, unkD, uA, uB, keyDat, PyData.canLay0, PyData.canLayAll0, PyData.depth, PyData.depthAll, ok_piece, ok_a, ok_b]
theorem shaped_unit : SeqAt.shaped (.tuple []) = true := by decide +kernel
theorem eqv_parts {ps : Mul} : PyData.eqv (.tuple (ps.map partD)) (.tuple []) = decide (ps = []) := by
  cases ps with
  | nil => rfl
  | cons p r => rfl
theorem div2_nil {ps : Mul} : decide (div2 ps = []) = decide (ps = []) := by
  cases ps <;> rfl
def spRow (K : PySem.W.Frag) : Sp := fun vs H Q _ => ∃ v n ps, vs = [v] ∧ Dp K H v (sumD n ps) ∧ Ab ps ∧ ∀ v' H', Same H H' → OptV K H' v' (rowD n ps) → Q v' H'
def spTold (K : PySem.W.Frag) : Sp := fun vs H Q _ => ∃ v n ps, vs = [v] ∧ OptV K H v (rowD n ps) ∧ Ab ps ∧ ∀ v' H', Same H H' → OptV K H' v' (instrD n ps) → Q v' H'
abbrev sRow : Stmt := topS 31
abbrev sTold : Stmt := topS 36
theorem scRow : FnScope ["word", "names", "used", "number", "parts", "code", "x", "y", "d", "far", "unknown", "many"] ["word"] (defScope sRow) := ⟨rfl, rfl, rfl, by decide +kernel, rfl, by decide +kernel, by decide +kernel⟩
theorem scTold : FnScope ["found", "name", "x", "y", "d"] ["found"] (defScope sTold) := ⟨rfl, rfl, rfl, by decide +kernel, rfl, by decide +kernel, by decide +kernel⟩
section
variable {P : Program} {w : World} {K : PySem.W.Frag} {mg : Str → Option Value} {base : Heap}
theorem row_cases (n : Int) (ps : Mul) : rowD n ps = none ∨ rowD n ps = some (.tuple [.str (calledS n), .int (n / 32 % 8), .int (n / 256 % 8), sumD (n / 2048) (div2 ps)]) := by
  unfold rowD
  repeat (first | exact .inl rfl | exact .inr rfl | split)
theorem ok_told {f : Addr} {fd : FuncData} (F : Fun K "_law_told" "_law_told" sTold f fd) (T : Bi mg) : FnOk P w K mg base CX0 1 f fd ["found"] (spTold K) := by
  refine F.ok scTold (fun vs H Q E h => ?_) (fun cdv A outer s H vs Q E hr h => ?_)
  · obtain ⟨v, n, ps, rfl, _⟩ := h
    rfl
  · obtain ⟨v, n, ps, rfl, hv, ab, q⟩ := h
    have hu64 := hr.units
    refine ⟨_, (pss_cons (ps_if (pt_cmpR op_isN (pv 0) pe_non (nomark _)) (pss_one (ps_ret pe_non)) pss_nil)
      (pss_cons (ps_asg (pv 0) (pg_tup rfl (pgs_cons (pg_name (i := 1) scTold.nd rfl (.inl rfl)) (pgs_cons (pg_name (i := 2) scTold.nd rfl (.inl rfl)) (pgs_cons (pg_name (i := 3) scTold.nd rfl (.inl rfl)) (pgs_cons (pg_name (i := 4) scTold.nd rfl (.inl rfl)) pgs_nil))))))
      (pss_one (ps_ret (pe_tup (pa_cons (pv 1) (pa_cons (pv 2) (pa_cons (pv 3) (pa_cons (pe_ifExp (pt_cmpR (op_eqD hu64) (pe_ix ix_tup (pv 4) pe_int (fun _ _ => rfl)) (pe_tup pa_nil) (nomark _)) (pe_ix ix_tup (pv 4) pe_int (fun _ _ => rfl)) (pv 4)) pa_nil))))))))), ?_⟩
    rw [told_row] at q
    rcases row_cases n ps with e | e
    · rw [e] at hv q
      obtain rfl : v = .non := hv
      exact ⟨_, rfl, rfl, _, rfl, iteT (q _ _ (Same.refl H) rfl)⟩
    · rw [e] at hv q
      obtain ⟨a, xs, rfl, hs, ha⟩ := th_tup (.dat hv)
      cases ha with
      | cons h1 ha => cases ha with
      | cons h2 ha => cases ha with
      | cons h3 ha => cases ha with
      | cons h4 ha =>
      cases ha
      cases h1
      cases h2
      cases h3
      rename_i vd
      obtain ⟨b, ys, rfl, hb, hby⟩ := th_tup (.dat h4)
      obtain ⟨w1, w2, rfl, g1, g2⟩ := dps_two hby
      cases g1
      refine ⟨_, rfl, rfl, _, rfl, iteF ⟨_, rfl, a, _, rfl, hs, rfl, _, _, rfl, _, _, rfl, _, _, rfl, _, _, rfl, rfl, ?_⟩⟩
      refine ⟨_, rfl, _, rfl, _, rfl, _, rfl, b, _, _, _, rfl, rfl, hb, at2 1 _ rfl, Nat.zero_le _, fun e he => ?_⟩
      have s1 := same_new (o := .tup []) he
      refine ⟨_, _, dp_same s1 g2, .tup (SqT.of upd_same) .nil, shaped_parts ab.div, shaped_unit, _, rfl, ?_⟩
      rw [eqv_parts, div2_nil]
      by_cases c : ps = []
      · rw [decide_eq_true c]
        refine iteT ⟨_, rfl, b, _, _, _, rfl, rfl, sqT_same s1 hb, at2 0 _ rfl, (by show 4 ≤ sizeLine; decide), fun p hp => ?_⟩
        refine q _ _ (s1.trans (same_new hp)) ?_
        show Dp K _ _ (.tuple [.str (calledS n), .int (n / 32 % 8), .int (n / 256 % 8), dD n ps])
        unfold dD
        rw [if_pos c]
        exact .tup (SqT.of upd_same) (.cons (.str _) (.cons (.int _) (.cons (.int _) (.cons (.int _) .nil))))
      · rw [decide_eq_false c]
        refine iteF ⟨_, rfl, (by show 4 ≤ sizeLine; decide), fun p hp => ?_⟩
        refine q _ _ (s1.trans (same_new hp)) ?_
        show Dp K _ _ (.tuple [.str (calledS n), .int (n / 32 % 8), .int (n / 256 % 8), dD n ps])
        unfold dD
        rw [if_neg c]
        exact .tup (SqT.of upd_same) (.cons (.str _) (.cons (.int _) (.cons (.int _) (.cons (dp_same (s1.trans (same_new hp)) h4) .nil))))
theorem tOr_goH {t u : TT} {σ : L2.St} {H : Hp} {Q : Bool → Hp → Prop} (h : t σ H fun c H1 => if c = true then Q true H1 else u σ H1 Q) : tOr t u σ H Q := h
theorem tB_goH {t : TE} {σ : L2.St} {H : Hp} {Q : Bool → Hp → Prop} (h : t σ H fun x H1 => ∃ c, x = .bl c ∧ Q c H1) : tB t σ H Q := h
theorem tAsg_goH {t : TE} {g : TG} {D : Ends} {σ : L2.St} {H : Hp} (h : t σ H fun x H1 => g x σ H1 D.nx) : tAsg t g D σ H := h
theorem ok_row {f : Addr} {fd : FuncData} (F : Fun K "_law_row" "_law_row" sRow f fd) (T : Bi mg) : FnOk P w K mg base CX0 1 f fd ["word"] (spRow K) := by
  refine F.ok scRow (fun vs H Q E h => ?_) (fun cdv A outer s H vs Q E hr h => ?_)
  · obtain ⟨v, n, ps, rfl, _⟩ := h
    rfl
  · obtain ⟨v, n, ps, rfl, hv, ab, q⟩ := h
    have hu64 := hr.units
    refine ⟨_, (pss_cons (ps_set (i := 1) scRow.nd rfl (.inl rfl) (pe_lst (pa_cons pe_str (pa_cons pe_str (pa_cons pe_str (pa_cons pe_str (pa_cons pe_str (pa_cons pe_str (pa_cons pe_str (pa_cons pe_str (pa_cons pe_str (pa_cons pe_str (pa_cons pe_str (pa_cons pe_str (pa_cons pe_str pa_nil)))))))))))))))
      (pss_cons (ps_set (i := 1) scRow.nd rfl (.inl rfl) (pe_op op_cat (pv 1) (pe_lst (pa_cons pe_str (pa_cons pe_str (pa_cons pe_str (pa_cons pe_str pa_nil)))))))
      (pss_cons (ps_set (i := 2) scRow.nd rfl (.inl rfl) (pe_lst (pa_cons pe_str (pa_cons pe_str (pa_cons pe_str (pa_cons pe_str (pa_cons pe_str (pa_cons pe_str (pa_cons pe_str (pa_cons pe_str (pa_cons pe_str (pa_cons pe_str (pa_cons pe_str (pa_cons pe_str (pa_cons pe_str (pa_cons pe_str (pa_cons pe_str (pa_cons pe_str (pa_cons pe_str pa_nil)))))))))))))))))))
      (pss_cons (ps_asg (pv 0) (pg_tup rfl (pgs_cons (pg_name (i := 3) scRow.nd rfl (.inl rfl)) (pgs_cons (pg_name (i := 4) scRow.nd rfl (.inl rfl)) pgs_nil))))
      (pss_cons (ps_if (PW.pt (pw_or (pt_val (pe_callB (cr_any rfl) (by rfl) T.any (by decide +kernel) (pa_cons (pe_lc (own := [("unknown", 10), ("many", 11)]) (g := gTup K 2 (gCons (gName 10) (gCons (gName 11) gNil))) (tt := tYes) rfl scRow.nd (pi_tup (pv 4)) (blkOk_by (N := ["word", "names", "used", "number", "parts", "code", "x", "y", "d", "far", "unknown", "many"]) (sc := defScope sRow) (by decide +kernel)) (fun _ _ _ _ _ => (pg_tup rfl (pgs_cons (pg_name (i := 10) scRow.nd rfl (.inl rfl) (.inr rfl)) (pgs_cons (pg_name (i := 11) scRow.nd rfl (.inl rfl) (.inr rfl)) pgs_nil)))) (fun _ _ _ _ _ => pts_nil) (fun _ _ _ _ _ => (pe_cmpR op_ne (pe_op op_mod (pv 11) pe_int) pe_int (nomark _)))) pa_nil))) (pw_or1 (pt_cmpR op_gt (pe_op op_mod (pv 3) pe_int) pe_int (nomark _))))) (pss_one (ps_ret pe_non)) pss_nil)
      (pss_cons (ps_asg (pe_tup (pa_cons (pe_op op_mod (pv 3) pe_int) (pa_cons (pe_op op_mod (pe_op op_fdiv (pv 3) pe_int) pe_int) (pa_cons (pe_op op_mod (pe_op op_fdiv (pv 3) pe_int) pe_int) (pa_cons (pe_op op_fdiv (pv 3) pe_int) pa_nil))))) (pg_tup rfl (pgs_cons (pg_name (i := 5) scRow.nd rfl (.inl rfl)) (pgs_cons (pg_name (i := 6) scRow.nd rfl (.inl rfl)) (pgs_cons (pg_name (i := 7) scRow.nd rfl (.inl rfl)) (pgs_cons (pg_name (i := 8) scRow.nd rfl (.inl rfl)) pgs_nil))))))
      (pss_cons (ps_set (i := 9) scRow.nd rfl (.inl rfl) (pe_callTy call_tuple_of (by rfl) T.tuple (by decide +kernel) (pa_cons (pe_lc (own := [("unknown", 10), ("many", 11)]) (g := gTup K 2 (gCons (gName 10) (gCons (gName 11) gNil))) (tt := tYes) rfl scRow.nd (pi_tup (pv 4)) (blkOk_by (N := ["word", "names", "used", "number", "parts", "code", "x", "y", "d", "far", "unknown", "many"]) (sc := defScope sRow) (by decide +kernel)) (fun _ _ _ _ _ => (pg_tup rfl (pgs_cons (pg_name (i := 10) scRow.nd rfl (.inl rfl) (.inr rfl)) (pgs_cons (pg_name (i := 11) scRow.nd rfl (.inl rfl) (.inr rfl)) pgs_nil)))) (fun _ _ _ _ _ => pts_nil) (fun _ _ _ _ _ => (pe_tup (pa_cons (pv 10) (pa_cons (pe_op op_fdiv (pv 11) pe_int) pa_nil))))) pa_nil)))
      (pss_cons (ps_if (PW.pt (pw_or (PW.pt (pw_and (pt_cmpR op_notIn_sign pe_str (pe_ix ix_list (pv 2) (pv 5) (fun _ _ => rfl)) (by rfl)) (pw_and1 (pt_cmpR op_ne (pv 6) pe_int (nomark _))))) (pw_or1 (PW.pt (pw_and (pt_cmpR op_notIn_sign pe_str (pe_ix ix_list (pv 2) (pv 5) (fun _ _ => rfl)) (by rfl)) (pw_and1 (pt_cmpR op_ne (pv 7) pe_int (nomark _)))))))) (pss_one (ps_ret pe_non)) pss_nil)
      (pss_cons (ps_if (PW.pt (pw_and (pt_cmpR op_notIn_sign pe_str (pe_ix ix_list (pv 2) (pv 5) (fun _ _ => rfl)) (by rfl)) (pw_and1 (PW.pt (pw_or (pt_cmpR op_ne (pv 8) pe_int (nomark _)) (pw_or1 (pt_cmpR (op_neD hu64) (pv 9) (pe_tup pa_nil) (nomark _)))))))) (pss_one (ps_ret pe_non)) pss_nil)
      (pss_one (ps_ret (pe_tup (pa_cons (pe_ix ix_list (pv 1) (pv 5) (fun _ _ => rfl)) (pa_cons (pv 6) (pa_cons (pv 7) (pa_cons (pe_tup (pa_cons (pv 8) (pa_cons (pv 9) pa_nil))) pa_nil)))))))))))))))), ?_⟩
    obtain ⟨a, xs, rfl, hs, ha⟩ := th_tup (.dat hv)
    obtain ⟨v1, v2, rfl, h1, h2⟩ := dps_two ha
    cases h1
    obtain ⟨b, ys, rfl, hb, hby⟩ := th_tup (.dat h2)
    refine ⟨(by show 13 ≤ sizeLine; decide), fun l1 hl1 => ⟨_, rfl, (by show 4 ≤ sizeLine; decide), fun l2 hl2 => ?_⟩⟩
    have t1 := same_new (o := .lst [.str "stop", .str "take", .str "tell", .str "ask", .str "askfar", .str "go", .str "gofar", .str "set", .str "here", .str "copy", .str "add", .str "less", .str "load"]) hl1
    have t2 := same_new (o := .lst [.str "store", .str "call", .str "callfar", .str "jump"]) hl2
    refine ⟨l1, l2, _, _, rfl, rfl, t2 _ _ upd_same, upd_same, (by show 13 + 4 ≤ sizeLine; decide), fun p hp => ?_⟩
    have t3 := same_new (o := .lst (calledL.map V.str)) hp
    refine ⟨(by show 17 ≤ sizeLine; decide), fun l3 hl3 => ?_⟩
    have t4 := same_new (o := .lst (usedL.map V.str)) hl3
    have s4 := ((t1.trans t2).trans t3).trans t4
    have hp4 := t4 _ _ (upd_same (H := upd (upd H l1 (.lst [.str "stop", .str "take", .str "tell", .str "ask", .str "askfar", .str "go", .str "gofar", .str "set", .str "here", .str "copy", .str "add", .str "less", .str "load"])) l2 (.lst [.str "store", .str "call", .str "callfar", .str "jump"])) (a := p) (o := .lst (calledL.map V.str)))
    have hl34 := upd_same (H := upd (upd (upd H l1 (.lst [.str "stop", .str "take", .str "tell", .str "ask", .str "askfar", .str "go", .str "gofar", .str "set", .str "here", .str "copy", .str "add", .str "less", .str "load"])) l2 (.lst [.str "store", .str "call", .str "callfar", .str "jump"])) p (.lst (calledL.map V.str))) (a := l3) (o := .lst (usedL.map V.str))
    refine ⟨_, rfl, a, _, rfl, sqT_same s4 hs, rfl, _, _, rfl, _, _, rfl, rfl, ?_⟩
    dsimp only [tSeq, tIfS]
    refine tOr_goH (tB_goH (any_go (ps := ps) (ys := ys) (pb := b) (fun R h => ⟨_, rfl, h⟩) (sqT_same s4 hb) (dps_same s4 hby) (Nat.le_trans ab.len (by decide)) (fun _ _ => rfl) (fun _ _ => rfl) fun H5 s5 => ⟨_, rfl, ?_⟩))
    have s45 := s4.trans s5
    have hp5 := s5 _ _ hp4
    have hl5 := s5 _ _ hl34
    clear hp4 hl34
    cases eo : odd2 ps with
    | true =>
      refine iteT (iteT (q _ _ s45 ?_))
      unfold rowD
      rw [if_pos eo]
      rfl
    | false =>
      have no : ¬ odd2 ps = true := by rw [eo]; exact Bool.noConfusion
      refine iteF ⟨_, rfl, _, _, rfl, rfl, (by show (0 : Int) < 32; decide), _, _, rfl, rfl, _, rfl, ?_⟩
      have h0 : 0 ≤ n % 32 := Int.emod_nonneg _ (by decide)
      by_cases c : 16 < n % 32
      · rw [decide_eq_true c]
        refine iteT (q _ _ s45 ?_)
        unfold rowD
        rw [if_neg no, if_pos c]
        rfl
      · rw [decide_eq_false c]
        have hi17 : (n % 32).toNat < 17 := by omega
        have er : rowD n ps = if ((!hasC 120 (usedS n) && !decide (n / 32 % 8 = 0)) || (!hasC 121 (usedS n) && !decide (n / 256 % 8 = 0))) = true then none else
            if (!hasC 100 (usedS n) && (!decide (n / 2048 = 0) || !decide (ps = []))) = true then none else some (.tuple [.str (calledS n), .int (n / 32 % 8), .int (n / 256 % 8), sumD (n / 2048) (div2 ps)]) := by
          unfold rowD
          rw [if_neg no, if_neg c]
        refine iteF ⟨_, rfl, _, _, rfl, rfl, (by show (0 : Int) < 32; decide), _, rfl, _, _, rfl, rfl, ⟨by decide, by decide⟩, _, _, rfl, rfl, (by show (0 : Int) < 8; decide), _, rfl, _, _, rfl, rfl, ⟨by decide, by decide⟩, _, _, rfl, rfl, (by show (0 : Int) < 8; decide), _, rfl, _, _, rfl, rfl, ⟨by decide, by decide⟩, (by show 4 ≤ sizeLine; decide), fun t ht => ?_⟩
        have s6 := same_new (o := .tup [.int (n % 32), .int (n / 32 % 8), .int (n / 256 % 8), .int (n / 2048)]) ht
        refine ⟨t, _, rfl, SqT.of upd_same, rfl, _, _, rfl, _, _, rfl, _, _, rfl, _, _, rfl, rfl, ?_⟩
        dsimp only [tSeq]
        refine tAsg_goH (far_go (ps := ps) (ys := ys) (pb := b) (fun R h => ⟨_, rfl, h⟩) (sqT_same (s45.trans s6) hb) (dps_same (s45.trans s6) hby) (Nat.le_trans ab.len (by decide)) (fun _ _ => rfl) (fun _ _ => rfl) (fun _ _ => rfl) fun vf H7 s7 hvf => ?_)
        have s67 := (s45.trans s6).trans s7
        have hp7 := s7 _ _ (s6 _ _ hp5)
        have hl7 := s7 _ _ (s6 _ _ hl5)
        dsimp only [gName, tSeq, tIfS]
        refine tOr_go (!hasC 120 (usedS n) && !decide (n / 32 % 8 = 0)) (!hasC 121 (usedS n) && !decide (n / 256 % 8 = 0)) (fun Q' h => ?_) (fun Q' h => ?_) ?_
        · refine tAnd_go _ _ (fun Q2 h2 => ⟨_, rfl, _, rfl, l3, _, _, _, rfl, rfl, SqL.of hl7, at_tab h0 (by show _ < 17; exact hi17), 120, _, rfl, rfl, _, rfl, h2⟩) (fun Q2 h2 => ⟨_, rfl, rfl, _, rfl, ?_⟩) h
          rw [eq_int]
          exact h2
        · refine tAnd_go _ _ (fun Q2 h2 => ⟨_, rfl, _, rfl, l3, _, _, _, rfl, rfl, SqL.of hl7, at_tab h0 (by show _ < 17; exact hi17), 121, _, rfl, rfl, _, rfl, h2⟩) (fun Q2 h2 => ⟨_, rfl, rfl, _, rfl, ?_⟩) h
          rw [eq_int]
          exact h2
        · obtain ⟨bf, zs, rfl, hbf, hbz⟩ := th_tup (.dat hvf)
          cases e1 : ((!hasC 120 (usedS n) && !decide (n / 32 % 8 = 0)) || (!hasC 121 (usedS n) && !decide (n / 256 % 8 = 0))) with
          | true =>
            rw [e1, if_pos rfl] at er
            refine iteT (q _ _ s67 ?_)
            rw [er]
            rfl
          | false =>
            rw [e1, if_neg Bool.false_ne_true] at er
            refine iteF ⟨_, rfl, _, rfl, l3, _, _, _, rfl, rfl, SqL.of hl7, at_tab h0 (by show _ < 17; exact hi17), 100, _, rfl, rfl, _, rfl, ?_⟩
            show if (!hasC 100 (usedS n)) = true then _ else _
            have last : ∀ H8, Same H7 H8 → (!hasC 100 (usedS n) && (!decide (n / 2048 = 0) || !decide (ps = []))) = false →
                tRet (tTup (tCons (tOp (rIxL K) (tVar 1) (tVar 5)) (tCons (tVar 6) (tCons (tVar 7) (tCons (tTup (tCons (tVar 8) (tCons (tVar 9) tNil))) tNil))))) { nx := fun _ H' => Q .non H', rt := Q }
                  [some (.ref a), some (.ref p), some (.ref l3), some (.int n), some (.ref b), some (.int (n % 32)), some (.int (n / 32 % 8)), some (.int (n / 256 % 8)), some (.int (n / 2048)), some (.ref bf), none, none] H8 := by
              intro H8 s8 hc
              refine ⟨_, rfl, _, rfl, p, _, _, _, rfl, rfl, SqL.of (s8 _ _ hp7), at_tab h0 (by show _ < 17; exact hi17), _, rfl, _, rfl, _, rfl, _, rfl, (by show 2 ≤ sizeLine; decide), fun t1 ht1 => ⟨(by show 4 ≤ sizeLine; decide), fun t2 ht2 => ?_⟩⟩
              have s9 := same_new (o := .tup [.int (n / 2048), .ref bf]) ht1
              have s10 := same_new (o := .tup [.str (calledL.getD (n % 32).toNat ""), .int (n / 32 % 8), .int (n / 256 % 8), .ref t1]) ht2
              refine q _ _ (((s67.trans s8).trans s9).trans s10) ?_
              rw [er, hc, if_neg Bool.false_ne_true]
              have ht : (upd (upd H8 t1 (.tup [.int (n / 2048), .ref bf])) t2 (.tup [.str (calledL.getD (n % 32).toNat ""), .int (n / 32 % 8), .int (n / 256 % 8), .ref t1])) t1 = some (.tup [.int (n / 2048), .ref bf]) := s10 _ _ upd_same
              exact .tup (SqT.of upd_same) (.cons (.str _) (.cons (.int _) (.cons (.int _) (.cons (.tup (SqT.of ht) (.cons (.int _) (.cons (dp_same ((s8.trans s9).trans s10) hvf) .nil))) .nil))))
            cases e2 : hasC 100 (usedS n) with
            | true =>
              exact iteF (iteF (last H7 (Same.refl _) (by rw [e2]; rfl)))
            | false =>
              refine iteT ⟨_, rfl, rfl, _, rfl, ?_⟩
              rw [eq_int]
              cases e3 : decide (n / 2048 = 0) with
              | false =>
                refine iteT (iteT (q _ _ s67 ?_))
                rw [er, e2, e3]
                rfl
              | true =>
                refine iteF ⟨_, rfl, Nat.zero_le _, fun e8 he8 => ?_⟩
                have s8 := same_new (o := .tup []) he8
                refine ⟨_, _, dp_same s8 hvf, .tup (SqT.of upd_same) .nil, shaped_parts ab.div, shaped_unit, _, rfl, ?_⟩
                rw [eqv_parts, div2_nil]
                cases e4 : decide (ps = []) with
                | false =>
                  refine iteT (q _ _ (s67.trans s8) ?_)
                  rw [er, e2, e3, e4]
                  rfl
                | true =>
                  exact iteF (last _ s8 (by rw [e2, e3, e4]; rfl))
end

mutual
theorem dp_stay {K : PySem.W.Frag} {H H' : Hp} (hl : ∀ a xs, SqL K H a xs → SqL K H' a xs) (ht : ∀ a xs, SqT K H a xs → SqT K H' a xs) : ∀ {v : V} {d : PyData}, Dp K H v d → Dp K H' v d
  | _, _, .non => .non
  | _, _, .bl b => .bl b
  | _, _, .int i => .int i
  | _, _, .str x => .str x
  | _, _, .lst s a => .lst (hl _ _ s) (dps_stay hl ht a)
  | _, _, .tup s a => .tup (ht _ _ s) (dps_stay hl ht a)
theorem dps_stay {K : PySem.W.Frag} {H H' : Hp} (hl : ∀ a xs, SqL K H a xs → SqL K H' a xs) (ht : ∀ a xs, SqT K H a xs → SqT K H' a xs) : ∀ {vs : List V} {ds : List PyData}, DpAll K H vs ds → DpAll K H' vs ds
  | _, _, .nil => .nil
  | _, _, .cons h t => .cons (dp_stay hl ht h) (dps_stay hl ht t)
end
theorem rd_unlock {H : Hp} {d a : Addr} {od : Obj} {k : List (List Key × V)} {o u : HO} (hd : H d = some (.frz od (.dT k))) (h : Rd H a u) (n1 : ∀ x y, u ≠ .frz x y) (n2 : ∀ x, u ≠ .dT x) : Rd (upd H d o) a u := by
  have hb : a ≠ d := fun z => by
    rcases h with h | ⟨x, h⟩
    · rw [z, hd] at h
      exact n1 _ _ (Option.some.inj h).symm
    · rw [z, hd] at h
      cases h
      exact n2 _ rfl
  rcases h with h | ⟨x, h⟩
  · exact .inl (by rw [upd_ne hb]; exact h)
  · exact .inr ⟨x, by rw [upd_ne hb]; exact h⟩
theorem dp_unlock {K : PySem.W.Frag} {H : Hp} {d : Addr} {od : Obj} {k : List (List Key × V)} {o : HO} (hd : H d = some (.frz od (.dT k))) {v : V} {x : PyData} (h : Dp K H v x) : Dp K (upd H d o) v x :=
  dp_stay (fun a xs h => h.imp (fun h => rd_unlock hd h (by intro x y z; cases z) (by intro x z; cases z)) id) (fun a xs h => h.imp (fun h => rd_unlock hd h (by intro x y z; cases z) (by intro x z; cases z)) id) h
/-! ### sorted of pairs (key, unknown) -/
def keyTup (u : List Key) : PyData := .tuple [keyD u, unkD u]
def ItemAt (K : PySem.W.Frag) (H : Hp) (y : V) (u : List Key) : Prop := ∃ t kt ua, y = .ref t ∧ H t = some (.tup [kt, .ref ua]) ∧ H ua = some (.tup (u.map kV)) ∧ Dp K H kt (keyD u)
theorem item_dp {K : PySem.W.Frag} {H : Hp} {y : V} {u : List Key} (h : ItemAt K H y u) : Dp K H y (keyTup u) := by
  obtain ⟨t, kt, ua, rfl, h1, h2, h3⟩ := h
  exact .tup (SqT.of h1) (.cons h3 (.cons (dp_unk ⟨ua, rfl, h2⟩) .nil))
theorem keyTup_nm {u : List Key} (h : NmU u) : ∃ i z k, keyTup u = .tuple [.tuple [.int i, .str z], .tuple [.str k, .str z]] := by
  obtain ⟨k, z, rfl, hk⟩ := h
  exact ⟨_, z, k, rfl⟩
def le3 : List Key → List Key → Bool := PySem.W.dataLe false keyTup
def rSortedItems (K : PySem.W.Frag) : List V → Hp → VK → Prop := fun vs H Q => ∃ (a : Addr) (xs : List V) (us : List (List Key)), vs = [.ref a] ∧ SqL K H a xs ∧ PySem.W.EachIs (ItemAt K H) xs us ∧ (∀ u ∈ us, NmU u) ∧
  ∀ (ys : List V) (p : Addr), PySem.W.EachIs (ItemAt K H) ys (us.mergeSort le3) → H p = none → Q (.ref p) (upd H p (.lst ys))
theorem each_valsI {K : PySem.W.Frag} {H : Hp} : ∀ {xs : List V} {its : List Value} {us : List (List Key)}, PySem.W.EachIs (ItemAt K H) xs us → Vals xs its → PySem.W.EachIs (fun v u => ∃ y, L2.RelV y v ∧ ItemAt K H y u) its us
  | _, _, _, .nil, .nil => .nil
  | _, _, _, .cons h t, .cons r rt => .cons ⟨_, r, h⟩ (each_valsI t rt)
theorem each_backI {K : PySem.W.Frag} {H : Hp} : ∀ {its : List Value} {us : List (List Key)}, PySem.W.EachIs (fun v u => ∃ y, L2.RelV y v ∧ ItemAt K H y u) its us → ∃ ys, Vals ys its ∧ PySem.W.EachIs (ItemAt K H) ys us
  | _, _, .nil => ⟨[], .nil, .nil⟩
  | _, _, .cons ⟨y, r, h⟩ t => by
    obtain ⟨ys, r1, h1⟩ := each_backI t
    exact ⟨y :: ys, .cons r r1, .cons h h1⟩
theorem cr_sortedItems {X : Cx} {k : Nat} (hr : Room k X.A) : CallR X (.builtin "sorted") (rSortedItems X.K) := by
  intro pins s σ H vs us' Q I r h
  obtain ⟨a, xs, us, rfl, hs, he, hn, q⟩ := h
  obtain rfl := Vals.ref1 r
  obtain ⟨its, rv, hl, hz⟩ := I.list hs
  have hu := each_valsI he rv
  have hlen : us.length ≤ sizeLine := by
    rw [← he.length]
    exact hz
  have er : PySem.W.EachIs (fun v b => ∃ as, Reads s.heap v (keyTup b) as) its us := hu.mono fun v b ⟨y, ry, hy⟩ => Dp.reads I _ _ _ (item_dp hy) ry
  have al : PySem.W.AllAlike (us.map keyTup) := by
    intro d hd d' hd'
    obtain ⟨u, hu, rfl⟩ := List.mem_map.mp hd
    obtain ⟨u', hu', rfl⟩ := List.mem_map.mp hd'
    obtain ⟨i, z, k, e⟩ := keyTup_nm (hn u hu)
    obtain ⟨i', z', k', e'⟩ := keyTup_nm (hn u' hu')
    rw [e, e']
    rfl
  have so : PySem.W.Sortable (us.map keyTup) := .inl fun d hd => by
    obtain ⟨u, hu, rfl⟩ := List.mem_map.mp hd
    exact ⟨_, _, rfl⟩
  refine PySem.W.sorted_data (bs := us) (enc := keyTup) (R := fun v u => ∃ y, L2.RelV y v ∧ ItemAt X.K H y u) hl.isList hu er al so hlen (fun u hu => ?_) fun out hol ho => ?_
  · obtain ⟨i, z, k, e⟩ := keyTup_nm (hn u hu)
    have hd : (keyTup u).depth ≤ 9 := by
      rw [e]
      simp [PyData.depth, PyData.depthAll]
    have := hr.units
    omega
  · obtain ⟨ys, rv', hy⟩ := each_backI ho
    obtain ⟨ep, he'⟩ := PyProof.Rows.sortedAll_at s.heap its out.toArray
    have hlen' : ys.length ≤ sizeLine := by
      rw [rv'.length, hol]
      exact hlen
    exact ⟨.ref (s.heap.objs.size + 1), upd H (s.heap.objs.size + 1) (.lst ys), I.laid (t' := s.toks) (fun _ _ => PyProof.Rows.sortedAll_old) (Nat.le_succ _) ⟨hlen', out, ep, rv', he'⟩, rfl, q ys _ hy (I.hok.fresh (Nat.le_succ _))⟩
/-! ### _law_key -/
abbrev sKey : Stmt := topS 32
theorem scKey : FnScope ["unknown"] ["unknown"] (defScope sKey) := ⟨rfl, rfl, rfl, by decide +kernel, rfl, by decide +kernel, by decide +kernel⟩
def spKey (K : PySem.W.Frag) : Sp := fun vs H Q _ => ∃ a z, vs = [.ref a] ∧ H a = some (.tup [.str sPiece, .str z]) ∧ ∀ v H', Same H H' → Dp K H' v (.tuple [.int 0, .str z]) → Q v H'
section
variable {P : Program} {w : World} {K : PySem.W.Frag} {mg : Str → Option Value} {base : Heap}
theorem ok_key {f : Addr} {fd : FuncData} (F : Fun K "_law_key" "_law_key" sKey f fd) : FnOk P w K mg base CX0 1 f fd ["unknown"] (spKey K) := by
  refine F.ok scKey (fun vs H Q E h => ?_) (fun cdv A outer s H vs Q E hr h => ?_)
  · obtain ⟨a, z, rfl, _⟩ := h
    rfl
  · obtain ⟨a, z, rfl, ha, q⟩ := h
    refine ⟨_, (pss_one (ps_ret (pe_tup (pa_cons (pe_bm PySem.F.plainAttrs_list PySem.F.slot_list_index PySem.F.type_list_index mt_index (pe_lst (pa_cons pe_str (pa_cons pe_str (pa_cons pe_str pa_nil)))) (pa_cons (pe_ix ix_tup (pv 0) pe_int (fun _ _ => rfl)) pa_nil)) (pa_cons (pe_ix ix_tup (pv 0) pe_int (fun _ _ => rfl)) pa_nil))))), ?_⟩
    refine ⟨(by show 3 ≤ sizeLine; decide), fun l hl => ?_⟩
    have s1 := same_new (o := .lst [.str "piece", .str "name", .str "in"]) hl
    refine ⟨.inl ⟨rfl, _, SqL.of upd_same⟩, _, rfl, a, _, _, _, rfl, rfl, SqT.of (s1 _ _ ha), at2 0 _ rfl, ?_⟩
    refine ⟨l, _, _, 0, .str "piece", rfl, rfl, SqL.of upd_same, rfl, rfl, rfl, rfl, (fun m z' hm => absurd hm (Nat.not_lt_zero m)), ?_⟩
    refine ⟨_, rfl, a, _, _, _, rfl, rfl, SqT.of (s1 _ _ ha), at2 1 _ rfl, (by show 2 ≤ sizeLine; decide), fun p hp => ?_⟩
    exact q _ _ (s1.trans (same_new hp)) (.tup (SqT.of upd_same) (.cons (.int _) (.cons (.str _) .nil)))
end

/-! ### _law_total -/
abbrev sTotal : Stmt := topS 33
theorem scTotal : FnScope ["number", "pairs", "found", "unknown", "many", "order", "key"] ["number", "pairs"] (defScope sTotal) := ⟨rfl, rfl, rfl, by decide +kernel, rfl, by decide +kernel, by decide +kernel⟩
def two (m1 m2 : Int) : Mul := [(uA, m1), (uB, m2)]
def norm (m1 m2 : Int) : Mul := (keysN (two m1 m2)).map fun u => (u, getI (two m1 m2) u)
def PairAt (H : Hp) (y : V) (u : List Key) (m : Int) : Prop := ∃ t ua, y = .ref t ∧ H t = some (.tup [.ref ua, .int m]) ∧ H ua = some (.tup (u.map kV))
theorem pairAt_same {H H' : Hp} (e : Same H H') {y : V} {u : List Key} {m : Int} (h : PairAt H y u m) : PairAt H' y u m := by
  obtain ⟨t, ua, rfl, h1, h2⟩ := h
  exact ⟨t, ua, rfl, e _ _ h1, e _ _ h2⟩
def spTotal (K : PySem.W.Frag) : Sp := fun vs H Q _ => ∃ (n m1 m2 : Int) (a : Addr) (y1 y2 : V), vs = [.int n, .ref a] ∧ SqL K H a [y1, y2] ∧ PairAt H y1 uA m1 ∧ PairAt H y2 uB m2 ∧ ∀ v H', Same H H' → Dp K H' v (sumD n (norm m1 m2)) → Q v H'
theorem nmA : NmU uA := ⟨sPiece, "a", rfl, by decide +kernel⟩
theorem nmB : NmU uB := ⟨sPiece, "b", rfl, by decide +kernel⟩
theorem ne_ab : ¬ uA = uB := by decide +kernel
theorem le_ab : le3 uA uB = true := by decide +kernel
theorem get_a (m1 m2 : Int) : getI (two m1 m2) uA = m1 := by
  unfold getI two
  rw [List.find?_cons_of_pos (by simp)]
  rfl
theorem get_b (m1 m2 : Int) : getI (two m1 m2) uB = m2 := by
  unfold getI two
  rw [List.find?_cons_of_neg (by simpa using ne_ab), List.find?_cons_of_pos (by simp)]
  rfl
theorem put_1 (m1 : Int) : putI [] uA (getI [] uA + m1) = [(uA, m1)] := by
  have e : getI [] uA = 0 := rfl
  rw [e, Int.zero_add]
  rfl
theorem put_2 (m1 m2 : Int) : putI [(uA, m1)] uB (getI [(uA, m1)] uB + m2) = two m1 m2 := by
  have e : getI [(uA, m1)] uB = 0 := by
    unfold getI
    rw [List.find?_cons_of_neg (by simpa using ne_ab)]
    rfl
  rw [e, Int.zero_add]
  unfold putI
  have e2 : ([(uA, m1)].any fun kv => decide (kv.1 = uB)) = false := by simp [ne_ab]
  rw [e2, if_neg Bool.false_ne_true]
  rfl
theorem keys_two (m1 m2 : Int) : keysN (two m1 m2) = (if m1 = 0 then [] else [uA]) ++ (if m2 = 0 then [] else [uB]) := by
  unfold keysN
  show [uA, uB].filter (fun u => !decide (getI (two m1 m2) u = 0)) = _
  rw [List.filter_cons, List.filter_cons, get_a, get_b, List.filter_nil]
  by_cases h1 : m1 = 0 <;> by_cases h2 : m2 = 0 <;> simp [h1, h2]
theorem norm_ab (m1 m2 : Int) : Ab (norm m1 m2) := by
  unfold norm
  rw [keys_two]
  by_cases h1 : m1 = 0 <;> by_cases h2 : m2 = 0
  · rw [if_pos h1, if_pos h2]; exact .nil
  · rw [if_pos h1, if_neg h2]; exact .b _
  · rw [if_neg h1, if_pos h2]; exact .a _
  · rw [if_neg h1, if_neg h2]; exact .ab _ _
theorem sort_two (m1 m2 : Int) : (keysN (two m1 m2)).mergeSort le3 = keysN (two m1 m2) := by
  refine List.mergeSort_of_pairwise ?_
  rw [keys_two]
  by_cases h1 : m1 = 0 <;> by_cases h2 : m2 = 0 <;> simp [h1, h2, le_ab]
theorem keys_nm (m1 m2 : Int) : ∀ u ∈ keysN (two m1 m2), NmU u ∧ u ∈ (two m1 m2).map (·.1) := by
  intro u hu
  have h := (List.mem_filter.mp hu).1
  refine ⟨?_, h⟩
  have h2 : u = uA ∨ u = uB := by simpa [two] using h
  rcases h2 with h2 | h2
  · rw [h2]; exact nmA
  · rw [h2]; exact nmB
theorem wo_mono {H H' : Hp} {D : Addr} (e : Same H H') : Same (wo H D) (wo H' D) := fun b o h => by
  have hb : b ≠ D := fun z => by
    rw [z] at h
    unfold wo at h
    rw [if_pos rfl] at h
    cases h
  rw [wo_ne hb] at h ⊢
  exact e b o h
theorem dp_is {K : PySem.W.Frag} {H : Hp} {D : Addr} {l : List V} {v : V} {i : Int} {z : Str} (hD : H D = some (.lst l)) (h : Dp K H v (.tuple [.int i, .str z])) : Dp K (wo H D) v (.tuple [.int i, .str z]) := by
  cases h with
  | tup s t =>
    obtain ⟨x, y, rfl, g1, g2⟩ := dps_two t
    cases g1
    cases g2
    refine .tup ?_ (.cons (.int _) (.cons (.str _) .nil))
    rcases s with (s | ⟨o, s⟩) | s
    · exact .inl (.inl (by rw [wo_ne (ne_of s hD (by intro z; cases z))]; exact s))
    · exact .inl (.inr ⟨o, by rw [wo_ne (ne_of s hD (by intro z; cases z))]; exact s⟩)
    · exact .inr s
theorem item_same {K : PySem.W.Frag} {H H' : Hp} (e : Same H H') {y : V} {u : List Key} (h : ItemAt K H y u) : ItemAt K H' y u := by
  obtain ⟨t, kt, ua, rfl, h1, h2, h3⟩ := h
  exact ⟨t, kt, ua, rfl, e _ _ h1, e _ _ h2, dp_same e h3⟩
theorem items_same {K : PySem.W.Frag} {H H' : Hp} (e : Same H H') : ∀ {ys : List V} {us : List (List Key)}, PySem.W.EachIs (ItemAt K H) ys us → PySem.W.EachIs (ItemAt K H') ys us
  | _, _, .nil => .nil
  | _, _, .cons h t => .cons (item_same e h) (items_same e t)
theorem items_snoc {K : PySem.W.Frag} {H : Hp} {y : V} {u : List Key} (h : ItemAt K H y u) : ∀ {ys : List V} {us : List (List Key)}, PySem.W.EachIs (ItemAt K H) ys us → PySem.W.EachIs (ItemAt K H) (ys ++ [y]) (us ++ [u])
  | _, _, .nil => .cons h .nil
  | _, _, .cons g t => .cons g (items_snoc h t)
theorem items_get {K : PySem.W.Frag} {H : Hp} : ∀ {ys : List V} {us : List (List Key)}, PySem.W.EachIs (ItemAt K H) ys us → ∀ {i : Nat} {y : V}, ys[i]? = some y → ∃ u, us[i]? = some u ∧ ItemAt K H y u
  | _, _, .nil, i, y, h => by simp at h
  | _, _, .cons h t, 0, y, e => by
    obtain rfl : _ = y := Option.some.inj e
    exact ⟨_, rfl, h⟩
  | _, _, .cons h t, i + 1, y, e => items_get t (i := i) e
theorem items_unlock {K : PySem.W.Frag} {H : Hp} {d : Addr} {od : Obj} {k : List (List Key × V)} {o : HO} (hd : H d = some (.frz od (.dT k))) : ∀ {ys : List V} {us : List (List Key)}, PySem.W.EachIs (ItemAt K H) ys us → PySem.W.EachIs (ItemAt K (upd H d o)) ys us
  | _, _, .nil => .nil
  | _, _, .cons h t => by
    obtain ⟨a, kt, ua, rfl, h1, h2, h3⟩ := h
    refine .cons ⟨a, kt, ua, rfl, ?_, ?_, dp_unlock hd h3⟩ (items_unlock hd t)
    · rw [upd_ne (ne_of h1 hd (by intro z; cases z))]
      exact h1
    · rw [upd_ne (ne_of h2 hd (by intro z; cases z))]
      exact h2
theorem pair_turn {H : Hp} {y1 y2 x : V} {m1 m2 : Int} {i : Nat} (h1 : PairAt H y1 uA m1) (h2 : PairAt H y2 uB m2) (hx : [y1, y2][i]? = some x) :
    ∃ uu mm, PairAt H x uu mm ∧ ((two m1 m2).take i).length ≤ 2 ∧ putI ((two m1 m2).take i) uu (getI ((two m1 m2).take i) uu + mm) = (two m1 m2).take (i + 1) := by
  have hi : i < 2 := (List.getElem?_eq_some_iff.mp hx).1
  have hi2 : i = 0 ∨ i = 1 := by omega
  rcases hi2 with rfl | rfl
  · obtain rfl : y1 = x := Option.some.inj hx
    exact ⟨uA, m1, h1, by simp, put_1 m1⟩
  · obtain rfl : y2 = x := Option.some.inj hx
    exact ⟨uB, m2, h2, by simp [two], put_2 m1 m2⟩
theorem two_key {m1 m2 : Int} {k : List Key} (h : k ∈ (two m1 m2).map (·.1)) : ∃ z, k = [.inr sPiece, .inr z] ∧ keyD k = .tuple [.int 0, .str z] := by
  have h2 : k = uA ∨ k = uB := by simpa [two] using h
  have r : rank sPiece = some 0 := by decide +kernel
  rcases h2 with h2 | h2
  · refine ⟨"a", h2, ?_⟩
    rw [h2]
    show PyData.tuple [.int ((rank sPiece).getD 0), .str "a"] = _
    rw [r]
    rfl
  · refine ⟨"b", h2, ?_⟩
    rw [h2]
    show PyData.tuple [.int ((rank sPiece).getD 0), .str "b"] = _
    rw [r]
    rfl
section
variable {P : Program} {w : World} {K : PySem.W.Frag} {mg : Str → Option Value} {base : Heap}
theorem ok_total {f : Addr} {fd : FuncData} (F : Fun K "_law_total" "_law_total" sTotal f fd) (T : Bi mg) (G : Has P w K mg base CX0 1 "_law_key" ["unknown"] (spKey K)) : FnOk P w K mg base CX0 2 f fd ["number", "pairs"] (spTotal K) := by
  refine F.ok scTotal (fun vs H Q E h => ?_) (fun cdv A outer s H vs Q E hr h => ?_)
  · obtain ⟨n, m1, m2, a, y1, y2, rfl, _⟩ := h
    rfl
  · obtain ⟨n, m1, m2, a, y1, y2, rfl, hs, h1, h2, q⟩ := h
    have hu := hu_of hr
    refine ⟨_, (pss_cons (ps_set (i := 2) scTotal.nd rfl (.inr rfl) (pe_dnewT))
      (pss_cons (ps_for PassesOwn.never rfl (pi_list (pv 1)) (pg_tup rfl (pgs_cons (pg_name (i := 3) scTotal.nd rfl (.inl rfl)) (pgs_cons (pg_name (i := 4) scTotal.nd rfl (.inl rfl)) pgs_nil))) (pss_one (ps_dput hu (pv 2) (pv 3) (pe_op op_add (pe_dget2 hu (pv 2) (pv 3) pe_int ⟨rfl, rfl, rfl, rfl⟩) (pv 4)) rfl)))
      (pss_cons (ps_set (i := 5) scTotal.nd rfl (.inl rfl) (pe_callB (cr_sortedItems hr) (by rfl) T.sorted (by decide +kernel) (pa_cons (pe_lock (pe_lc (own := [("unknown", 3)]) (g := gName 3) (tt := _) rfl scTotal.nd (pi_keys (pv 2)) (blkOk_by (N := ["number", "pairs", "found", "unknown", "many", "order", "key"]) (sc := defScope sTotal) (by decide +kernel)) (fun _ _ _ _ _ => pg_name (i := 3) scTotal.nd rfl (.inl rfl)) (fun _ _ _ _ _ => pts_one (pt_cmpR op_ne (pe_dget hu (pv 2) (pv 3) (fun _ _ => rfl)) pe_int (nomark _))) (fun _ _ _ _ _ => (pe_tup (pa_cons (pe_callH G hr (by rfl) pass0 (pa_cons (pv 3) pa_nil)) (pa_cons (pv 3) pa_nil)))))) pa_nil)))
      (pss_one (ps_ret (pe_tup (pa_cons (pv 0) (pa_cons (pe_callTy call_tuple_of (by rfl) T.tuple (by decide +kernel) (pa_cons (pe_lc (own := [("key", 6), ("unknown", 3)]) (g := gTup K 2 (gCons (gName 6) (gCons (gName 3) gNil))) (tt := tYes) rfl scTotal.nd (pi_list (pv 5)) (blkOk_by (N := ["number", "pairs", "found", "unknown", "many", "order", "key"]) (sc := defScope sTotal) (by decide +kernel)) (fun _ _ _ _ _ => (pg_tup rfl (pgs_cons (pg_name (i := 6) scTotal.nd rfl (.inl rfl) (.inr rfl)) (pgs_cons (pg_name (i := 3) scTotal.nd rfl (.inl rfl) (.inr rfl)) pgs_nil)))) (fun _ _ _ _ _ => pts_nil) (fun _ _ _ _ _ => (pe_tup (pa_cons (pv 3) (pa_cons (pe_dget hu (pv 2) (pv 3) (fun _ _ => rfl)) pa_nil))))) pa_nil)) pa_nil)))))))), ?_⟩
    refine fun d hd => ?_
    have sd := same_new (o := .dT []) hd
    refine ⟨_, rfl, a, rfl, ⟨_, sqL_same sd hs⟩, ?_⟩
    refine for_it (walk_list (xs := [y1, y2])) (fun i σ H1 => ∃ u m, σ = [some (.int n), some (.ref a), some (.ref d), u, m, none, none] ∧ Same H H1 ∧ H1 d = some (.dT (vKv ((two m1 m2).take i))))
      ⟨none, none, rfl, sd, upd_same⟩ (fun i σ H1 _ ⟨_, _, _, s1, _⟩ => sqL_same s1 hs) ?_ ?_
    · rintro i x σ H1 H1' hi ⟨u, m, rfl, s1, hd1⟩ ⟨rfl, hx⟩
      obtain ⟨uu, mm, hp, hlen, hput⟩ := pair_turn h1 h2 hx
      obtain ⟨t, ua, rfl, ht, hua⟩ := pairAt_same s1 hp
      refine ⟨t, _, rfl, SqT.of ht, rfl, _, _, rfl, _, _, rfl, rfl, ?_⟩
      refine ⟨_, rfl, d, rfl, .inr ⟨_, .inl hd1⟩, _, rfl, _, DGet.t hd1 hua, _, rfl, getI ((two m1 m2).take i) uu, mm, getD_val _ uu, rfl, ?_⟩
      refine ⟨_, rfl, _, rfl, d, _, rfl, DPut.t hd1 hua (by
        show (List.map _ ((two m1 m2).take i)).length < sizeLine
        rw [List.length_map]
        exact small1000 (by omega)), ?_⟩
      rw [put_vKv, hput]
      refine ⟨_, _, rfl, fun b o e => ?_, upd_same⟩
      rw [upd_ne (ne_of_none e hd)]
      exact s1 _ _ e
    · rintro σ H2 ⟨u, m, rfl, s2, hd2⟩
      have e2 : (two m1 m2).take [y1, y2].length = two m1 m2 := rfl
      rw [e2] at hd2
      have lenK : (vKv (two m1 m2)).length = 2 := rfl
      refine ⟨d, _, hd2, trivial, fun od => ⟨_, rfl, d, od, rfl, .inr ⟨_, upd_same, fun D hD => ?_⟩⟩⟩
      have hDd : D ≠ d := by
        intro z
        rw [z, upd_same] at hD
        cases hD
      have hDn : H2 D = none := by
        rw [upd_ne hDd] at hD
        exact hD
      refine lc_it walk_keysT (fun i H3 => (∀ b o, b ≠ D → upd H2 d (.frz od (.dT (vKv (two m1 m2)))) b = some o → H3 b = some o) ∧ ∃ ys, H3 D = some (.lst ys) ∧ ys.length ≤ i ∧ PySem.W.EachIs (ItemAt K (wo H3 D)) ys ((((two m1 m2).take i).map (·.1)).filter fun u => !decide (getI (two m1 m2) u = 0)))
        ⟨fun b o hb e => by rw [upd_ne hb]; exact e, [], upd_same, Nat.le_refl _, .nil⟩ (fun i H3 _ ⟨kp, _⟩ => kp _ _ hDd.symm upd_same) ?_ ?_
      · rintro i x H3 H3' hi ⟨kp, ys, hD3, hlen, he⟩ ⟨rfl, k, v, qa, hk, rfl, hq⟩
        have hi' : i < 2 := by rw [lenK] at hi; exact hi
        obtain ⟨⟨k0, mk⟩, hm⟩ : ∃ p, (two m1 m2)[i]? = some p := ⟨(two m1 m2)[i], List.getElem?_eq_getElem hi'⟩
        have hk2 : (k, v) = (k0, V.int mk) := by
          unfold vKv at hk
          rw [List.getElem?_map, hm] at hk
          exact (Option.some.inj hk).symm
        cases hk2
        have hmem : k ∈ (two m1 m2).map (·.1) := List.mem_map.mpr ⟨_, List.mem_of_getElem? hm, rfl⟩
        have hd3 : H3' d = some (.frz od (.dT (vKv (two m1 m2)))) := kp _ _ hDd.symm upd_same
        refine ⟨rfl, _, rfl, _, rfl, d, .int (getI (two m1 m2) k), rfl, .inr ⟨vKv (two m1 m2), k, qa, .inr ⟨od, hd3⟩, rfl, hq, (valV_mem hmem).symm⟩, rfl, _, rfl, ?_⟩
        rw [eq_int]
        have tk : ((two m1 m2).take (i + 1)).map (·.1) = ((two m1 m2).take i).map (·.1) ++ [k] := by
          rw [List.take_add_one, hm]
          simp
        cases c : !decide (getI (two m1 m2) k = 0) with
        | true =>
          obtain ⟨z, ek, edk⟩ := two_key hmem
          have hq' : H3' qa = some (.tup [.str sPiece, .str z]) := by rw [hq, ek]; rfl
          refine iteT ⟨_, rfl, qa, z, rfl, hq', fun vk H4 s4 hvk => ⟨_, rfl, (by show 2 ≤ sizeLine; decide), fun t ht => ⟨ys, ?_, small1000 (by omega), fun b o hb e => ?_, ys ++ [.ref t], upd_same, by simp; omega, ?_⟩⟩⟩
          · rw [upd_ne (ne_of_none (s4 _ _ hD3) ht)]
            exact s4 _ _ hD3
          · rw [upd_ne hb, upd_ne (ne_of_none (s4 _ _ (kp b o hb e)) ht)]
            exact s4 _ _ (kp b o hb e)
          · have tD : t ≠ D := fun z => by rw [z, s4 _ _ hD3] at ht; cases ht
            have qD : qa ≠ D := ne_of hq hD3 (by intro z; cases z)
            rw [wo_self, tk, List.filter_append]
            have z2 : [k].filter (fun u => !decide (getI (two m1 m2) u = 0)) = [k] := by simp [List.filter, c]
            rw [z2]
            refine items_snoc ⟨t, vk, qa, rfl, ?_, ?_, ?_⟩ (items_same ((wo_mono s4).trans (wo_new ht tD)) he)
            · rw [wo_ne tD, upd_same]
            · rw [wo_ne qD, upd_ne (ne_of_none (s4 _ _ hq) ht)]
              exact s4 _ _ hq
            · rw [edk]
              exact dp_same (wo_new ht tD) (dp_is (s4 _ _ hD3) hvk)
        | false =>
          refine iteF ⟨kp, ys, hD3, by omega, ?_⟩
          rw [tk, List.filter_append]
          have z : [k].filter (fun u => !decide (getI (two m1 m2) u = 0)) = [] := by simp [List.filter, c]
          rw [z, List.append_nil]
          exact he
      · rintro H3 ⟨kp, ys, hD3, hlen, he⟩
        have he : PySem.W.EachIs (ItemAt K (wo H3 D)) ys (keysN (two m1 m2)) := he
        have hd3 : H3 d = some (.frz od (.dT (vKv (two m1 m2)))) := kp _ _ hDd.symm upd_same
        have sm : Same H2 (upd H3 d (.dT (vKv (two m1 m2)))) := fun b o e => by
          by_cases hb : b = d
          · rw [hb] at e ⊢
            rw [upd_same]
            exact hd2.symm.trans e
          · rw [upd_ne hb]
            refine kp b o (ne_of_none e hDn) ?_
            rw [upd_ne hb]
            exact e
        have eD : (upd H3 d (.dT (vKv (two m1 m2)))) D = some (.lst ys) := by
          rw [upd_ne hDd]
          exact hD3
        have he2 := items_unlock (o := .dT (vKv (two m1 m2))) hd3 (items_same wo_same he)
        refine ⟨hd3, D, ys, keysN (two m1 m2), rfl, SqL.of eD, he2, fun u hu => (keys_nm m1 m2 u hu).1, fun zs p hz hp => ?_⟩
        rw [sort_two] at hz
        generalize hH4 : upd H3 d (.dT (vKv (two m1 m2))) = H4 at sm hz hp ⊢
        have h4d : H4 d = some (.dT (vKv (two m1 m2))) := by rw [← hH4, upd_same]
        have s5 := same_new (o := .lst zs) hp
        have hz5 := items_same s5 hz
        have h5d := s5 _ _ h4d
        have h5p : (upd H4 p (.lst zs)) p = some (.lst zs) := upd_same
        generalize upd H4 p (.lst zs) = H5 at s5 hz5 h5d h5p ⊢
        have lz : zs.length = (keysN (two m1 m2)).length := hz5.length
        have lz2 : zs.length ≤ 2 := by
          rw [lz, keys_two]
          by_cases h1 : m1 = 0 <;> by_cases h2 : m2 = 0 <;> simp [h1, h2]
        refine ⟨_, rfl, _, rfl, p, rfl, ⟨_, SqL.of h5p⟩, fun D2 hD2 => ?_⟩
        have pD2 : p ≠ D2 := ne_of_none h5p hD2
        refine lc_it (walk_list (xs := zs)) (fun i H6 => (∀ b o, b ≠ D2 → H5 b = some o → H6 b = some o) ∧ ∃ ps, H6 D2 = some (.lst ps) ∧ ps.length = i ∧ DpAll K (wo H6 D2) ps (((keysN (two m1 m2)).take i).map fun u => partD (u, getI (two m1 m2) u)))
          ⟨fun b o hb e => by rw [upd_ne hb]; exact e, [], upd_same, rfl, .nil⟩ (fun i H6 _ ⟨kp, _⟩ => SqL.of (kp _ _ pD2 h5p)) ?_ ?_
        · rintro i x H6 H6' hi ⟨kp6, ps, h6D, hps, hdp⟩ ⟨rfl, hx⟩
          obtain ⟨uu, hu1, t0, kt, ua, rfl, ht0, hua, hkt⟩ := items_get hz5 hx
          have ht6 := kp6 _ _ (ne_of_none ht0 hD2) ht0
          have uaD : ua ≠ D2 := ne_of_none hua hD2
          have hua6 := kp6 _ _ uaD hua
          have h6d := kp6 _ _ (ne_of_none h5d hD2) h5d
          have hmem := (keys_nm m1 m2 uu (List.mem_of_getElem? hu1)).2
          refine ⟨t0, _, rfl, SqT.of ht6, rfl, _, _, rfl, _, _, rfl, rfl, ?_⟩
          refine ⟨rfl, yes_go (iteT ⟨_, rfl, _, rfl, _, rfl, d, .int (getI (two m1 m2) uu), rfl, .inr ⟨vKv (two m1 m2), uu, ua, .inl h6d, rfl, hua6, (valV_mem hmem).symm⟩, (by show 2 ≤ sizeLine; decide), fun t ht => ⟨ps, ?_, small1000 (by omega), ?_, ps ++ [.ref t], upd_same, by simp; omega, ?_⟩⟩)⟩
          · rw [upd_ne (ne_of_none h6D ht)]
            exact h6D
          · intro b o hb e
            rw [upd_ne hb, upd_ne (ne_of_none (kp6 b o hb e) ht)]
            exact kp6 b o hb e
          · have tD : t ≠ D2 := fun z => by rw [z, h6D] at ht; cases ht
            rw [wo_self, List.take_add_one, hu1]
            simp only [Option.toList_some, List.map_append, List.map_cons, List.map_nil]
            refine dps_snoc ?_ (dps_same (wo_new ht tD) hdp)
            have et : wo (upd H6' t (.tup [.ref ua, .int (getI (two m1 m2) uu)])) D2 t = some (.tup [.ref ua, .int (getI (two m1 m2) uu)]) := by rw [wo_ne tD, upd_same]
            have ea : wo (upd H6' t (.tup [.ref ua, .int (getI (two m1 m2) uu)])) D2 ua = some (.tup (uu.map kV)) := by rw [wo_ne uaD, upd_ne (ne_of_none hua6 ht)]; exact hua6
            exact .tup (SqT.of et) (.cons (dp_unk ⟨ua, rfl, ea⟩) (.cons (.int _) .nil))
        · rintro H6 ⟨kp6, ps, h6D, hps, hdp⟩
          have tl2 : (keysN (two m1 m2)).take zs.length = keysN (two m1 m2) := by rw [lz]; exact List.take_length
          rw [tl2] at hdp
          refine ⟨D2, ps, rfl, .inl ⟨SqL.of h6D, fun l hl6 => ⟨(by show 2 ≤ sizeLine; decide), fun r hr7 => ?_⟩⟩⟩
          have s6 : Same H5 H6 := fun b o e => kp6 b o (ne_of_none e hD2) e
          have s7 := same_new (o := .tup ps) hl6
          have s8 := same_new (o := .tup [.int n, .ref l]) hr7
          refine q _ _ ((((((s2.trans sm).trans s5).trans s6).trans s7).trans s8)) ?_
          have el : (upd (upd H6 l (.tup ps)) r (.tup [.int n, .ref l])) l = some (.tup ps) := s8 _ _ upd_same
          refine .tup (SqT.of upd_same) (.cons (.int n) (.cons (.tup (SqT.of el) ?_) .nil))
          have e3 : (norm m1 m2).map partD = (keysN (two m1 m2)).map fun u => partD (u, getI (two m1 m2) u) := by
            unfold norm
            rw [List.map_map]
            rfl
          rw [e3]
          exact dps_same ((wo_same.trans s7).trans s8) hdp
end

/-! ### lambdas handed to _law_met -/
/-- a def whose code object is known to stand at c -/
structure FunC (K : PySem.W.Frag) (x : Str) (st : Stmt) (c f : Addr) (fd : FuncData) : Prop where
  ex : ∃ (oc : Value) (od : Option Addr) (kV doc pm : Value) (an : Option Addr) (ct : Value) (osl : Array (Option Value)),
    fd = PySem.W.fnOf x x (defArgs st) (defBody st) (defScope st) .none kV doc pm an (.ref c) ct ∧ K.lookup f = some ⟨oc, od, .func fd, osl⟩ ∧ PySem.W.codeIn K (.ref c) x = true
  kp : PySem.W.keepIn K (.ref f) = true
theorem FunC.fn {K : PySem.W.Frag} {x : Str} {st : Stmt} {c f : Addr} {fd : FuncData} (F : FunC K x st c f fd) : Fun K x x st f fd := by
  obtain ⟨oc, od, kV, doc, pm, an, ct, osl, e, lk, hc⟩ := F.ex
  exact ⟨⟨oc, od, kV, doc, pm, an, _, ct, osl, e, lk, hc⟩, F.kp⟩
theorem FunC.okX {P : Program} {w : World} {K : PySem.W.Frag} {mg : Str → Option Value} {base : Heap} {x : Str} {st : Stmt} {c f : Addr} {fd : FuncData} {N ps : List Str} {k : Nat} {sp : Sp} (F : FunC K x st c f fd) (S : FnScope N ps (defScope st)) (len : ∀ vs H Q E, sp vs H Q E → vs.length = ps.length)
    (hbody : ∀ (A : Around) (outer : List Env) (s : Shared) (H : Hp) (vs : List V) (Q : VK) (E : XK), Room k (A.deeper (envOfC x (defScope st) s.heap.objs.size f (.ref c))) → sp vs H Q E →
      ∃ t, PSs (cxOf (L2.CX P w) P w K mg base N x (defScope st) f (.ref c) A outer s H E) (defBody st) t ∧ t { nx := fun _ H' => Q .non H', rt := Q } (start N vs) H) : FnOk P w K mg base (L2.CX P w) (k + 1) f fd ps sp := by
  obtain ⟨oc, od, kV, doc, pm, an, ct, osl, rfl, lk, hcd⟩ := F.ex
  exact fn_of lk hcd S len fun A outer s H vs Q E hr hsp => hbody A outer s H vs Q E hr hsp
/-- what is known of _law_met and the two errors -/
structure Met (K : PySem.W.Frag) (mg : Str → Option Value) (CF CS : Addr) : Prop where
  ex : ∃ (g : Addr) (fd : FuncData), mg "_law_met" = some (.ref g) ∧ Fun K "_law_met" "_law_met" sMet g fd
  mF : mg "BadField" = some (.ref CF)
  mS : mg "BadSum" = some (.ref CS)
  tF : PySem.W.exmOne K (.ref CF) (.ref CF) = some true
  tSF : PySem.W.exmOne K (.ref CS) (.ref CF) = some false
  tS : PySem.W.exmOne K (.ref CS) (.ref CS) = some true
  xF : XfC K CF
  xS : XfC K CS
  nF : PySem.W.findIn K (.ref CF) "name" = some none
  nS : PySem.W.findIn K (.ref CS) "thing" = some none
theorem pe_met {X : Cx} {T : List (Addr × Str)} {CF CS c P : Addr} {k : Nat} {params : Arguments} {body : Expr} {scope : Scope} {t : XK → TE} {p lpos pos : Pos} (M : Met X.K X.mg CF CS) (hg : Gl X "_law_met")
    (TB : LamX.TabB X.base X.mg c P) (hcode : X.env.code = .ref c) (hmT : (P, X.env.qual ++ "<lambda>") ∈ T) (hu : ∀ p ∈ T, p.1 = P → p.2 = X.env.qual ++ "<lambda>") (hr : Room (k + 2) X.A) (L : LamX.LamS X.env.scope scope) (hdef : defaultsOf params X.env = ([], []))
    (hbind : ∀ (q : Str) (cl : List (Str × Addr)) (pm cv ctv : Value), bindArgs (PySem.W.kla_fn "<lambda>" q params body scope cl pm cv ctv) ⟨[], []⟩ = pure [])
    (hbody : ∀ (A : Around) (outer : List Env) (s : Shared) (H : Hp) (E : XK) (f c' : Addr), Room k (A.deeper (LamX.lamEnv X scope s.heap.objs.size f c')) → PE (LamX.lamCx X A outer s H E scope f c') body (t E)) :
    PE X (.Call (.Name "_law_met" p) [.Lambda params body scope lpos] [] pos) (LamX.tLam T (TMet CF CS) t) := by
  obtain ⟨g, fd, hm, F⟩ := M.ex
  have hb := F.binds (ps := ["ask"]) fun _ _ _ _ _ _ us hl => match us, hl with | [_], _ => rfl
  obtain ⟨oc, od, kV, doc, pm, an, cdv, ct, osl, rfl, lk, hcd⟩ := F.ex
  exact LamX.pe_lamcall hg hm F.kp lk hcd hb scMet rfl (.inl rfl) (met_gives M.mF M.mS M.tF M.tSF M.tS M.xF M.xS M.nF M.nS) TB hcode hmT hu hr L hdef hbind hbody
/-! ### what stays -/
/-- all but lists and tables stays -/
def Kn (H H' : Hp) : Prop := ∀ b o, H b = some o → (∀ xs, o ≠ .lst xs) → (∀ ps, o ≠ .tbl ps) → H' b = some o
theorem Kn.trans {H H1 H2 : Hp} (a : Kn H H1) (b : Kn H1 H2) : Kn H H2 := fun c o h n m => b c o (a c o h n m) n m
theorem Kn.same {H H' : Hp} (e : Same H H') : Kn H H' := fun b o h _ _ => e b o h
theorem Kn.ext {H H' : Hp} (e : LamX.ExtN H H') : Kn H H' := fun b o h _ m => e b o h m
theorem sqL_ext {K : PySem.W.Frag} {H H' : Hp} {a : Addr} {xs : List V} (e : LamX.ExtN H H') (h : SqL K H a xs) : SqL K H' a xs :=
  h.imp (fun h => h.imp (fun h => e _ _ h (by intro x z; cases z)) (fun ⟨o, h⟩ => ⟨o, e _ _ h (by intro x z; cases z)⟩)) id
theorem sqT_kn {K : PySem.W.Frag} {H H' : Hp} {a : Addr} {xs : List V} (e : Kn H H') (h : SqT K H a xs) : SqT K H' a xs :=
  h.imp (fun h => h.imp (fun h => e _ _ h (by intro x z; cases z) (by intro x z; cases z)) (fun ⟨o, h⟩ => ⟨o, e _ _ h (by intro x z; cases z) (by intro x z; cases z)⟩)) id
theorem dp_ext {K : PySem.W.Frag} {H H' : Hp} (e : LamX.ExtN H H') {v : V} {d : PyData} (h : Dp K H v d) : Dp K H' v d := dp_stay (fun _ _ h => sqL_ext e h) (fun _ _ h => sqT_kn (.ext e) h) h
theorem th_ext {K : PySem.W.Frag} {H H' : Hp} (e : LamX.ExtN H H') {v : V} {d : PyData} : Th K H v d → Th K H' v d
  | .dat h => .dat (dp_ext e h)
  | .dct h => .dct (e _ _ h (by intro x z; cases z))
theorem tabs_same {T : List (Addr × Str)} {H H' : Hp} (h : LamX.Tabs T H) (e : Same H H') : LamX.Tabs T H' := h.ext e
/-! ### _law_met_two -/
abbrev sMetTwo : Stmt := topS 37
theorem scMetTwo : FnScope ["odd"] ["odd"] (defScope sMetTwo) := ⟨rfl, rfl, rfl, by decide +kernel, rfl, by decide +kernel, by decide +kernel⟩
def spMetTwo (K : PySem.W.Frag) (T : List (Addr × Str)) : Sp := fun vs H Q _ => ∃ v d, vs = [v] ∧ Th K H v d ∧ okSum d ∧ readSum d = none ∧ LamX.Tabs T H ∧ ∀ p H', LamX.ExtN H H' → LamX.Tabs T H' → H' p = some (.tup [.str "sum", v]) → Q (.ref p) H'
abbrev qMetTwo : Str := (envOfC "_law_met_two" (defScope sMetTwo) 0 0 .none).qual ++ "<lambda>"
theorem met_sum {CF CS : Addr} {Q : VK} {T : List (Addr × Str)} {H H1 H' : Hp} {v : V} {dx : Addr} (e1 : LamX.ExtN H H1) (t1 : LamX.Tabs T H1) (s : Same H1 H') (hdx : H' dx = none) (q : ∀ p H', LamX.ExtN H H' → LamX.Tabs T H' → H' p = some (.tup [.str "sum", v]) → Q (.ref p) H') : MetE CF CS Q (.ref CS) (some dx) (upd H' dx (.xd [("thing", v)])) := by
  refine .inr ⟨dx, v, rfl, rfl, upd_same, fun p hp => ?_⟩
  have s2 := (s.trans (same_new (o := .xd [("thing", v)]) hdx)).trans (same_new (o := .tup [.str "sum", v]) hp)
  exact q _ _ (e1.trans (LamX.ExtN.of s2)) (t1.ext s2) upd_same
section
variable {P : Program} {w : World} {K : PySem.W.Frag} {mg : Str → Option Value} {base : Heap}
theorem ok_metTwo {f c tb CF CS : Addr} {fd : FuncData} {T : List (Addr × Str)} (F : FunC K "_law_met_two" sMetTwo c f fd) (M : Met K mg CF CS) (G : Has P w K mg base (L2.CX P w) 7 "instruction" ["word"] (spFields K CS instrD)) (TB : LamX.TabB base mg c tb)
    (hmT : (tb, qMetTwo) ∈ T) (hu : ∀ p ∈ T, p.1 = tb → p.2 = qMetTwo) : FnOk P w K mg base (L2.CX P w) 10 f fd ["odd"] (spMetTwo K T) := by
  refine F.okX scMetTwo (fun vs H Q E h => ?_) (fun A outer s H vs Q E hr h => ?_)
  · obtain ⟨v, d, rfl, _⟩ := h
    rfl
  · obtain ⟨v, d, rfl, th, ok, rn, tb0, q⟩ := h
    refine ⟨_, (pss_one (ps_ret (pe_met (k := 7) M (by rfl) TB rfl hmT hu hr (LamX.lamS_by (show LamX.lamSB (defScope sMetTwo) _ = true by decide +kernel)) rfl (fun _ _ _ _ _ => rfl) fun A outer s H E f c' hr => pe_callH G hr (by rfl) (passes_call (W := fun cls d _ H => E cls d H) (takes_of rfl rfl rfl rfl) (fun _ _ _ _ h => h)) (pa_cons (pv 0) pa_nil)))), ?_⟩
    refine ⟨tb0, fun H1 e1 t1 => ?_⟩
    refine ⟨_, rfl, v, d, rfl, th_ext e1 th, ok, fun n ps e => ?_, fun _ H' dx s hdx => met_sum e1 t1 s hdx q⟩
    rw [rn] at e
    cases e
end

/-! ### the law: its draws -/
abbrev sLaw : Stmt := topS 38
abbrev NL : List Str := ["script", "turn", "pool", "bad", "found", "number", "pairs", "word", "far", "due", "code", "d", "odd", "x", "y", "unknown", "many"]
theorem scLaw : FnScope NL ["script"] (defScope sLaw) := ⟨rfl, rfl, rfl, by decide +kernel, rfl, by decide +kernel, by decide +kernel⟩
def loopBody : List Stmt := match (defBody sLaw).getD 0 (.Pass ⟨0, 0, 0, 0⟩) with
  | .For _ _ b _ _ => b
  | _ => []
abbrev lb (i : Nat) : Stmt := loopBody.getD i (.Pass ⟨0, 0, 0, 0⟩)
/-- the law's slots -/
abbrev sg (a b c d e f g h i j k l m n o p q : Option V) : L2.St := [a, b, c, d, e, f, g, h, i, j, k, l, m, n, o, p, q]
/-- all but the pool's object stays -/
def Dr (p : Addr) (H H' : Hp) : Prop := ∀ b o, b ≠ p → H b = some o → H' b = some o
theorem Dr.trans {p : Addr} {H H1 H2 : Hp} (a : Dr p H H1) (b : Dr p H1 H2) : Dr p H H2 := fun c o n h => b c o n (a c o n h)
theorem Dr.same {p : Addr} {H H' : Hp} (e : Same H H') : Dr p H H' := fun b o _ h => e b o h
theorem Dr.refl {p : Addr} {H : Hp} : Dr p H H := fun b o _ h => h
theorem Dr.put {p : Addr} {H : Hp} {o : HO} : Dr p H (upd H p o) := fun b x n h => by
  rw [upd_ne n]
  exact h
/-- a pool with at most k draws -/
def PoolL (H : Hp) (p : Addr) (k : Nat) : Prop := ∃ c, c ≤ k ∧ Pool H p c
theorem PoolL.lst {H : Hp} {p : Addr} {k : Nat} (h : PoolL H p k) : ∃ a b z : V, H p = some (.lst [a, b, z]) := by
  obtain ⟨c, _, a, b, z, h, _⟩ := h
  exact ⟨_, _, _, h⟩
theorem PoolL.mono {H : Hp} {p : Addr} {j k : Nat} (h : PoolL H p j) (l : j ≤ k) : PoolL H p k := by
  obtain ⟨c, hc, h⟩ := h
  exact ⟨c, Nat.le_trans hc l, h⟩
theorem pool_keep {H H' : Hp} {p : Addr} {c : Nat} (e : ∀ o, H p = some o → (∀ ps, o ≠ .tbl ps) → H' p = some o) (h : Pool H p c) : Pool H' p c := by
  obtain ⟨a, b, z, h, r⟩ := h
  exact ⟨a, b, z, e _ h (by intro x z; cases z), r⟩
theorem PoolL.same {H H' : Hp} {p : Addr} {k : Nat} (h : PoolL H p k) (e : Same H H') : PoolL H' p k := by
  obtain ⟨c, hc, h⟩ := h
  exact ⟨c, hc, pool_keep (fun o q _ => e _ _ q) h⟩
theorem PoolL.ext {H H' : Hp} {p : Addr} {k : Nat} (h : PoolL H p k) (e : LamX.ExtN H H') : PoolL H' p k := by
  obtain ⟨c, hc, h⟩ := h
  exact ⟨c, hc, pool_keep (fun o q n => e _ _ q n) h⟩
theorem Dr.kn {p : Addr} {H H' : Hp} {k : Nat} (hp : PoolL H p k) (h : Dr p H H') : Kn H H' := fun b o e n _ => by
  refine h b o (fun z => ?_) e
  obtain ⟨a, b', c, hl⟩ := hp.lst
  rw [z, hl] at e
  exact n _ (Option.some.inj e).symm
theorem tabs_dr {T : List (Addr × Str)} {p : Addr} {H H' : Hp} {k : Nat} (hp : PoolL H p k) (e : Dr p H H') (h : LamX.Tabs T H) : LamX.Tabs T H' := by
  obtain ⟨a, b, c, hl⟩ := hp.lst
  intro q hq
  obtain ⟨ps, h1, h2, h3⟩ := h q hq
  have n1 : q.1 ≠ p := fun z => by rw [z, hl] at h1; cases h1
  refine ⟨ps, e _ _ n1 h1, h2, fun pos cv hc => ?_⟩
  obtain ⟨c', e1, e2⟩ := h3 pos cv hc
  have n2 : c' ≠ p := fun z => by
    rw [z, hl] at e2
    cases e2
  exact ⟨c', e1, e _ _ n2 e2⟩
theorem take_go {σ : L2.St} {H : Hp} {Q : VK} {p : Addr} {k : Nat} {m : Int} (h2 : σ[2]? = some (some (.ref p))) (hP : PoolL H p k) (hk : k < 1000) (hm : 0 < m) (hm2 : m < 1000000) (q : ∀ r H', 0 ≤ r → r < m → Dr p H H' → PoolL H' p (k + 1) → Q (.int r) H') :
    tCall spTake [] E0 (tCons (tVar 2) (tCons (tC (.int m)) tNil)) σ H Q := by
  obtain ⟨c, hc, hP⟩ := hP
  exact ⟨_, h2, p, c, m, rfl, hP, by omega, hm, hm2, fun r o h0 h1 hP' => q r _ h0 h1 .put ⟨c + 1, by omega, hP'⟩⟩
theorem draw_go {K : PySem.W.Frag} {σ : L2.St} {H : Hp} {Q : VK} {tm : TA} {p : Addr} {k : Nat} (Pm : List V → Hp → Prop) (h2 : σ[2]? = some (some (.ref p))) (hk : k < 1000) (hm : ∀ R : List V → Hp → Prop, (∀ vs H1, Pm vs H1 → R vs H1) → tm σ H R)
    (hP : ∀ vs H1, Pm vs H1 → PoolL H1 p k ∧ 0 < vs.length ∧ vs.length ≤ 100) (q : ∀ vs H1 v H', Pm vs H1 → v ∈ vs → Dr p H1 H' → PoolL H' p (k + 1) → Q v H') :
    tCall (spOne K) [] E0 (tCons (tVar 2) (tCons (tLst tm) tNil)) σ H Q := by
  refine ⟨_, h2, hm _ fun vs H1 pm => ?_⟩
  obtain ⟨⟨c, hc, hP1⟩, l0, l1⟩ := hP vs H1 pm
  refine ⟨Nat.le_trans l1 (by show 100 ≤ sizeLine; decide), fun t ht => ?_⟩
  have np : t ≠ p := fun z => by
    obtain ⟨a, b, y, e, _⟩ := hP1
    rw [z, e] at ht
    cases ht
  have e1 : Dr p H1 (upd H1 t (.lst vs)) := .same (same_new ht)
  refine ⟨p, t, c, vs, rfl, pool_keep (fun o e _ => same_new ht _ _ e) hP1, by omega, .inl (SqL.of upd_same), np, l0, by omega, fun v o hv hP2 => ?_⟩
  exact q vs H1 v _ pm hv (e1.trans .put) ⟨c + 1, by omega, hP2⟩
/-- the same, the menu's items evaluated without a change of the heap -/
theorem draw_go0 {K : PySem.W.Frag} {σ : L2.St} {H : Hp} {Q : VK} {tm : TA} {p : Addr} {k : Nat} {vs : List V} (h2 : σ[2]? = some (some (.ref p))) (hk : k < 1000) (hm : ∀ R : List V → Hp → Prop, R vs H → tm σ H R)
    (hP : PoolL H p k) (l0 : 0 < vs.length) (l1 : vs.length ≤ 100) (q : ∀ v H', v ∈ vs → Dr p H H' → PoolL H' p (k + 1) → Q v H') :
    tCall (spOne K) [] E0 (tCons (tVar 2) (tCons (tLst tm) tNil)) σ H Q :=
  draw_go (fun v h => v = vs ∧ h = H) h2 hk (fun R h => hm R (h _ _ ⟨rfl, rfl⟩)) (fun v h ⟨e1, e2⟩ => by subst e1; subst e2; exact ⟨hP, l0, l1⟩) fun v h x H' ⟨e1, e2⟩ => by subst e1; subst e2; exact q x H'
/-- a value that is no object -/
def Im (K : PySem.W.Frag) (v : V) (d : PyData) : Prop := ∀ H, Dp K H v d
/-- such a value, or a new empty list -/
def Im1 (K : PySem.W.Frag) (H : Hp) (v : V) (d : PyData) : Prop := Im K v d ∨ ∃ a, v = .ref a ∧ d = .list [] ∧ H a = some (.lst [])
theorem Im1.dr {K : PySem.W.Frag} {H H' : Hp} {p : Addr} {k : Nat} {v : V} {d : PyData} (hp : PoolL H p k) (e : Dr p H H') (h : Im1 K H v d) : Im1 K H' v d := by
  rcases h with h | ⟨a, e1, e2, h⟩
  · exact .inl h
  · obtain ⟨x, y, z, hl⟩ := hp.lst
    exact .inr ⟨a, e1, e2, e _ _ (fun z => by rw [z, hl] at h; cases h) h⟩
theorem Im1.th {K : PySem.W.Frag} {H : Hp} {v : V} {d : PyData} (h : Im1 K H v d) : Th K H v d := by
  rcases h with h | ⟨a, rfl, rfl, h⟩
  · exact .dat (h H)
  · exact .dat (.lst (SqL.of h) .nil)
def isIm (v : V) : Prop := v = .non ∨ (∃ b, v = .bl b) ∨ (∃ i, v = .int i) ∨ ∃ s, v = .str s
theorem isIm.im {K : PySem.W.Frag} {v : V} (h : isIm v) : ∃ d, Im K v d := by
  rcases h with rfl | ⟨b, rfl⟩ | ⟨i, rfl⟩ | ⟨s, rfl⟩
  · exact ⟨.none, fun _ => .non⟩
  · exact ⟨.bool b, fun _ => .bl b⟩
  · exact ⟨.int i, fun _ => .int i⟩
  · exact ⟨.str s, fun _ => .str s⟩
/-- the defs that the law calls -/
structure TL (P : Program) (w : World) (K : PySem.W.Frag) (mg : Str → Option Value) (base : Heap) (CF CS : Addr) (T : List (Addr × Str)) : Prop where
  bi : Bi mg
  cell : Has P w K mg base CX0 1 "_law_cell" ["script", "k"] (spCell K)
  pool : Has P w K mg base CX0 1 "_law_pool" ["cell"] spPool
  take : Has P w K mg base CX0 1 "_law_take" ["pool", "many"] spTake
  one : Has P w K mg base CX0 2 "_law_one" ["pool", "things"] (spOne K)
  bad : Has P w K mg base CX0 1 "_law_first_bad" ["code", "x", "y", "d"] (spFirstBad K)
  total : Has P w K mg base CX0 2 "_law_total" ["number", "pairs"] (spTotal K)
  row : Has P w K mg base CX0 1 "_law_row" ["word"] (spRow K)
  told : Has P w K mg base CX0 1 "_law_told" ["found"] (spTold K)
  fields : Has P w K mg base (L2.CX P w) 7 "fields" ["word"] (spFields K CS fieldsD)
  instr : Has P w K mg base (L2.CX P w) 7 "instruction" ["word"] (spFields K CS instrD)
  met : Met K mg CF CS
  two : Has P w K mg base (L2.CX P w) 10 "_law_met_two" ["odd"] (spMetTwo K T)
abbrev XL (P : Program) (w : World) (K : PySem.W.Frag) (mg : Str → Option Value) (base : Heap) (f c : Addr) (A : Around) (outer : List Env) (s : Shared) (H : Hp) (E : XK) : Cx := cxOf (L2.CX P w) P w K mg base NL "law" (defScope sLaw) f (.ref c) A outer s H E
section
variable {P : Program} {w : World} {K : PySem.W.Frag} {mg : Str → Option Value} {base : Heap} {CF CS f c : Addr} {T : List (Addr × Str)} {A : Around} {outer : List Env} {s : Shared} {H0 : Hp} {E : XK}
theorem st0 (L : TL P w K mg base CF CS T) (hr : Room 13 (XL P w K mg base f c A outer s H0 E).A) : ∃ t, PS (XL P w K mg base f c A outer s H0 E) (lb 0) t ∧
    ∀ (D : Ends) (H : Hp) (sc : Addr) (ns : List Int) (i : Nat) (o2 o3 o4 o5 o6 o7 o8 o9 o10 o11 o12 o13 o14 o15 o16 : Option V), SqL K H sc (ns.map V.int) →
      (∀ p H', H p = none → Same H H' → PoolL H' p 0 → D.nx (sg (some (.ref sc)) (some (.int (i : Int))) (some (.ref p)) o3 o4 o5 o6 o7 o8 o9 o10 o11 o12 o13 o14 o15 o16) H') →
      t D (sg (some (.ref sc)) (some (.int (i : Int))) o2 o3 o4 o5 o6 o7 o8 o9 o10 o11 o12 o13 o14 o15 o16) H := by
  have hr1 : Room 1 (XL P w K mg base f c A outer s H0 E).A := hr.mono (by decide)
  refine ⟨_, ps_set (i := 2) scLaw.nd rfl (.inl rfl) (pe_callH L.pool hr1 (by rfl) pass0 (pa_cons (pe_op op_add (pe_callH L.cell hr1 (by rfl) pass0 (pa_cons (pv 0) (pa_cons (pv 1) pa_nil))) (pv 1)) pa_nil)), ?_⟩
  intro D H sc ns i o2 o3 o4 o5 o6 o7 o8 o9 o10 o11 o12 o13 o14 o15 o16 hs q
  refine ⟨_, rfl, _, rfl, sc, ns, i, rfl, hs, fun n => ⟨_, rfl, _, _, rfl, rfl, n + i, rfl, fun p o hp hP => ?_⟩⟩
  exact q p _ hp (same_new hp) ⟨0, Nat.le_refl _, hP⟩
theorem st1 (L : TL P w K mg base CF CS T) (hr : Room 13 (XL P w K mg base f c A outer s H0 E).A) : ∃ t, PS (XL P w K mg base f c A outer s H0 E) (lb 1) t ∧
    ∀ (D : Ends) (H : Hp) (p : Addr) (o0 o1 o3 o4 o5 o6 o7 o8 o9 o10 o11 o12 o13 o14 o15 o16 : Option V), PoolL H p 0 →
      (∀ c x y H', Dr p H H' → PoolL H' p 3 → D.nx (sg o0 o1 (some (.ref p)) o3 o4 o5 o6 o7 o8 o9 (some (.int c)) o11 o12 (some (.int x)) (some (.int y)) o15 o16) H') →
      t D (sg o0 o1 (some (.ref p)) o3 o4 o5 o6 o7 o8 o9 o10 o11 o12 o13 o14 o15 o16) H := by
  have hr1 : Room 1 (XL P w K mg base f c A outer s H0 E).A := hr.mono (by decide)
  refine ⟨_, ps_asg (pe_tup (pa_cons (pe_callH L.take hr1 (by rfl) pass0 (pa_cons (pv 2) (pa_cons pe_int pa_nil))) (pa_cons (pe_callH L.take hr1 (by rfl) pass0 (pa_cons (pv 2) (pa_cons pe_int pa_nil))) (pa_cons (pe_callH L.take hr1 (by rfl) pass0 (pa_cons (pv 2) (pa_cons pe_int pa_nil))) pa_nil)))) (pg_tup rfl (pgs_cons (pg_name (i := 10) scLaw.nd rfl (.inr rfl)) (pgs_cons (pg_name (i := 13) scLaw.nd rfl (.inr rfl)) (pgs_cons (pg_name (i := 14) scLaw.nd rfl (.inr rfl)) pgs_nil)))), ?_⟩
  intro D H p o0 o1 o3 o4 o5 o6 o7 o8 o9 o10 o11 o12 o13 o14 o15 o16 hp q
  refine take_go rfl hp (by decide) (by decide) (by decide) fun r1 H1 _ _ d1 p1 => ?_
  refine take_go rfl p1 (by decide) (by decide) (by decide) fun r2 H2 _ _ d2 p2 => ?_
  refine take_go rfl p2 (by decide) (by decide) (by decide) fun r3 H3 _ _ d3 p3 => ?_
  refine ⟨(by show 3 ≤ sizeLine; decide), fun t ht => ?_⟩
  refine ⟨t, _, rfl, SqT.of upd_same, rfl, ?_⟩
  exact ⟨_, _, rfl, _, _, rfl, _, _, rfl, rfl, q _ _ _ _ (((d1.trans d2).trans d3).trans (.same (same_new ht))) (p3.same (same_new ht))⟩
end

/-! ### the law: code, x, y, d -/
def isImB : V → Bool
  | .non => true
  | .bl _ => true
  | .int _ => true
  | .str _ => true
  | _ => false
theorem isIm_of {v : V} (h : isImB v = true) : isIm v := by
  cases v with
  | non => exact .inl rfl
  | bl b => exact .inr (.inl ⟨b, rfl⟩)
  | int i => exact .inr (.inr (.inl ⟨i, rfl⟩))
  | str s => exact .inr (.inr (.inr ⟨s, rfl⟩))
  | _ => cases h
theorem isIm_b {v : V} (h : isIm v) : isImB v = true := by
  rcases h with rfl | ⟨b, rfl⟩ | ⟨i, rfl⟩ | ⟨s, rfl⟩ <;> rfl
theorem all_im {vs : List V} {v : V} (h : vs.all isImB = true) (hv : v ∈ vs) : isIm v := isIm_of (List.all_eq_true.mp h v hv)
section
variable {P : Program} {w : World} {K : PySem.W.Frag} {mg : Str → Option Value} {base : Heap} {CF CS f c : Addr} {T : List (Addr × Str)} {A : Around} {outer : List Env} {s : Shared} {H0 : Hp} {E : XK}
theorem st2 (L : TL P w K mg base CF CS T) (hr : Room 13 (XL P w K mg base f c A outer s H0 E).A) : ∃ t, PS (XL P w K mg base f c A outer s H0 E) (lb 2) t ∧
    ∀ (D : Ends) (H : Hp) (p : Addr) (o0 o1 o3 o4 o5 o6 o7 o8 o9 o10 o11 o12 o13 o14 o15 o16 : Option V), PoolL H p 3 →
      (∀ v H', isIm v → Dr p H H' → PoolL H' p 4 → D.nx (sg o0 o1 (some (.ref p)) o3 o4 o5 o6 o7 o8 o9 o10 (some v) o12 o13 o14 o15 o16) H') →
      t D (sg o0 o1 (some (.ref p)) o3 o4 o5 o6 o7 o8 o9 o10 o11 o12 o13 o14 o15 o16) H := by
  have hr2 : Room 2 (XL P w K mg base f c A outer s H0 E).A := hr.mono (by decide)
  refine ⟨_, (ps_set (i := 11) scLaw.nd rfl (.inr rfl) (pe_callH L.one hr2 (by rfl) pass0 (pa_cons (pv 2) (pa_cons (pe_lst (pa_cons pe_int (pa_cons pe_int (pa_cons pe_int (pa_cons (pe_un un_neg pe_int) (pa_cons pe_int (pa_cons (pe_un un_neg pe_int) (pa_cons (pe_op op_pow pe_int pe_int) (pa_cons (pe_un un_neg (pe_op op_pow pe_int pe_int)) pa_nil))))))))) pa_nil)))), ?_⟩
  intro D H p o0 o1 o3 o4 o5 o6 o7 o8 o9 o10 o11 o12 o13 o14 o15 o16 hp q
  refine draw_go0 rfl (by decide) (fun R h => ⟨_, rfl, _, rfl, _, _, rfl, rfl, ⟨by decide, by decide, by decide⟩, _, _, rfl, rfl, ⟨by decide, by decide, by decide⟩, _, rfl, h⟩) hp (by simp) (by simp) fun v H' hv d1 p1 => ?_
  exact q v H' (all_im (by rfl) hv) d1 p1
theorem st3 (L : TL P w K mg base CF CS T) (hr : Room 13 (XL P w K mg base f c A outer s H0 E).A) : ∃ t, PS (XL P w K mg base f c A outer s H0 E) (lb 3) t ∧
    ∀ (D : Ends) (H : Hp) (p : Addr) (vc : V) (o0 o1 o3 o4 o5 o6 o7 o8 o9 o11 o12 o13 o14 o15 o16 : Option V), PoolL H p 4 → isIm vc →
      (∀ v H', isIm v → Dr p H H' → PoolL H' p 6 → D.nx (sg o0 o1 (some (.ref p)) o3 o4 o5 o6 o7 o8 o9 (some v) o11 o12 o13 o14 o15 o16) H') →
      t D (sg o0 o1 (some (.ref p)) o3 o4 o5 o6 o7 o8 o9 (some vc) o11 o12 o13 o14 o15 o16) H := by
  have hr2 : Room 2 (XL P w K mg base f c A outer s H0 E).A := hr.mono (by decide)
  have hr1 : Room 1 (XL P w K mg base f c A outer s H0 E).A := hr.mono (by decide)
  refine ⟨_, (ps_if (pt_cmpR op_eq (pe_callH L.take hr1 (by rfl) pass0 (pa_cons (pv 2) (pa_cons pe_int pa_nil))) pe_int (nomark _)) (pss_one (ps_set (i := 10) scLaw.nd rfl (.inr rfl) (pe_callH L.one hr2 (by rfl) pass0 (pa_cons (pv 2) (pa_cons (pe_lst (pa_cons (pe_un un_neg pe_int) (pa_cons pe_int (pa_cons pe_non (pa_cons pe_bl (pa_cons pe_str (pa_cons (pv 10) pa_nil))))))) pa_nil))))) pss_nil), ?_⟩
  intro D H p vc o0 o1 o3 o4 o5 o6 o7 o8 o9 o11 o12 o13 o14 o15 o16 hp hc q
  refine take_go rfl hp (by decide) (by decide) (by decide) fun r1 H1 _ _ d1 p1 => ?_
  refine ⟨rfl, _, rfl, ite2 (fun _ => ?_) (fun _ => ?_)⟩
  · refine draw_go0 rfl (by decide) (fun R h => ⟨_, rfl, _, rfl, h⟩) p1 (by simp) (by simp) fun v H' hv d2 p2 => ?_
    exact q v H' (all_im (by simp only [List.all_cons, List.all_nil, isIm_b hc]; rfl) hv) (d1.trans d2) p2
  · exact q vc H1 hc d1 (p1.mono (by decide))
theorem st4 (L : TL P w K mg base CF CS T) (hr : Room 13 (XL P w K mg base f c A outer s H0 E).A) : ∃ t, PS (XL P w K mg base f c A outer s H0 E) (lb 4) t ∧
    ∀ (D : Ends) (H : Hp) (p : Addr) (vx vy vd : V) (o0 o1 o3 o4 o5 o6 o7 o8 o9 o10 o12 o15 o16 : Option V), PoolL H p 6 → isIm vx → isIm vy → isIm vd →
      (∀ vx vy vd dy H', isIm vx → Im1 K H' vy dy → isIm vd → Dr p H H' → PoolL H' p 10 → D.nx (sg o0 o1 (some (.ref p)) o3 o4 o5 o6 o7 o8 o9 o10 (some vd) o12 (some vx) (some vy) o15 o16) H') →
      t D (sg o0 o1 (some (.ref p)) o3 o4 o5 o6 o7 o8 o9 o10 (some vd) o12 (some vx) (some vy) o15 o16) H := by
  have hr2 : Room 2 (XL P w K mg base f c A outer s H0 E).A := hr.mono (by decide)
  have hr1 : Room 1 (XL P w K mg base f c A outer s H0 E).A := hr.mono (by decide)
  refine ⟨_, (ps_if (pt_cmpR op_eq (pe_callH L.take hr1 (by rfl) pass0 (pa_cons (pv 2) (pa_cons pe_int pa_nil))) pe_int (nomark _)) (pss_cons (ps_asg (pe_tup (pa_cons (pe_callH L.one hr2 (by rfl) pass0 (pa_cons (pv 2) (pa_cons (pe_lst (pa_cons pe_int (pa_cons (pe_un un_neg pe_int) (pa_cons pe_non (pa_cons pe_bl (pa_cons (pv 13) pa_nil)))))) pa_nil))) (pa_cons (pe_callH L.one hr2 (by rfl) pass0 (pa_cons (pv 2) (pa_cons (pe_lst (pa_cons pe_int (pa_cons (pe_lst pa_nil) (pa_cons (pv 14) (pa_cons (pv 14) pa_nil))))) pa_nil))) pa_nil))) (pg_tup rfl (pgs_cons (pg_name (i := 13) scLaw.nd rfl (.inr rfl)) (pgs_cons (pg_name (i := 14) scLaw.nd rfl (.inr rfl)) pgs_nil))))
      (pss_one (ps_set (i := 11) scLaw.nd rfl (.inr rfl) (pe_callH L.one hr2 (by rfl) pass0 (pa_cons (pv 2) (pa_cons (pe_lst (pa_cons pe_non (pa_cons pe_bl (pa_cons pe_str (pa_cons (pv 11) (pa_cons (pv 11) pa_nil)))))) pa_nil)))))) pss_nil), ?_⟩
  intro D H p vx vy vd o0 o1 o3 o4 o5 o6 o7 o8 o9 o10 o12 o15 o16 hp hx hy hd q
  refine take_go rfl hp (by decide) (by decide) (by decide) fun r1 H1 _ _ d1 p1 => ?_
  refine ⟨rfl, _, rfl, ite2 (fun _ => ?_) (fun _ => ?_)⟩
  · refine draw_go0 rfl (by decide) (fun R h => ⟨_, rfl, _, rfl, h⟩) p1 (by simp) (by simp) fun v2 H2 hv2 d2 p2 => ?_
    have i2 : isIm v2 := all_im (by simp only [List.all_cons, List.all_nil, isIm_b hx]; rfl) hv2
    refine draw_go (k := 8) (fun vs h => ∃ a, vs = [.int 8, .ref a, vy, vy] ∧ H2 a = none ∧ h = upd H2 a (.lst [])) rfl (by decide) (fun R h => ⟨(by show 0 ≤ sizeLine; decide), fun a ha => ⟨_, rfl, _, rfl, h _ _ ⟨a, rfl, ha, rfl⟩⟩⟩) (fun vs h ⟨a, e1, ha, e2⟩ => ?_) fun vs h v3 H3 ⟨a, e1, ha, e2⟩ hv3 d3 p3 => ?_
    · subst e1
      subst e2
      exact ⟨p2.same (same_new ha), by simp, by simp⟩
    · subst e1
      subst e2
      have s2 := same_new (o := .lst []) ha
      have hp2 := p2.same s2
      have i3 : ∃ dy, Im1 K H3 v3 dy := by
        rcases List.mem_cons.mp hv3 with rfl | hv3
        · exact ⟨_, .inl fun _ => .int 8⟩
        · rcases List.mem_cons.mp hv3 with rfl | hv3
          · exact ⟨_, Im1.dr hp2 d3 (.inr ⟨a, rfl, rfl, upd_same⟩)⟩
          · have e : v3 = vy := by
              rcases List.mem_cons.mp hv3 with h | hv3
              · exact h
              · exact List.mem_singleton.mp hv3
            obtain ⟨dy, hi⟩ := (e ▸ hy : isIm v3).im (K := K)
            exact ⟨dy, .inl hi⟩
      obtain ⟨dy, i3⟩ := i3
      refine ⟨(by show 2 ≤ sizeLine; decide), fun t ht => ?_⟩
      have s4 := same_new (o := .tup [v2, v3]) ht
      refine ⟨t, _, rfl, SqT.of upd_same, rfl, ?_⟩
      refine ⟨_, _, rfl, _, _, rfl, rfl, ?_⟩
      have p4 := p3.same s4
      refine draw_go0 rfl (by decide) (fun R h => ⟨_, rfl, _, rfl, h⟩) p4 (by simp) (by simp) fun v5 H5 hv5 d5 p5 => ?_
      refine q v2 v3 v5 dy H5 i2 (Im1.dr p4 d5 (Im1.dr p3 (.same s4) i3)) (all_im (by simp only [List.all_cons, List.all_nil, isIm_b hd]; rfl) hv5) (((((d1.trans d2).trans (.same s2)).trans d3).trans (.same s4)).trans d5) p5
  · obtain ⟨dy, hi⟩ := hy.im (K := K)
    exact q vx vy vd dy H1 hx (.inl hi) hd d1 (p1.mono (by decide))
def badV : Option Str → V
  | none => .non
  | some s => .str s
theorem st5 (L : TL P w K mg base CF CS T) (hr : Room 13 (XL P w K mg base f c A outer s H0 E).A) : ∃ t, PS (XL P w K mg base f c A outer s H0 E) (lb 5) t ∧
    ∀ (D : Ends) (H : Hp) (vc vx vy vd : V) (dc dx dy dd : PyData) (o0 o1 o2 o3 o4 o5 o6 o7 o8 o9 o12 o15 o16 : Option V), Im K vc dc → Im K vx dx → Im1 K H vy dy → Im K vd dd →
      D.nx (sg o0 o1 o2 (some (badV (badF dc dx dy dd))) o4 o5 o6 o7 o8 o9 (some vc) (some vd) o12 (some vx) (some vy) o15 o16) H →
      t D (sg o0 o1 o2 o3 o4 o5 o6 o7 o8 o9 (some vc) (some vd) o12 (some vx) (some vy) o15 o16) H := by
  have hr1 : Room 1 (XL P w K mg base f c A outer s H0 E).A := hr.mono (by decide)
  refine ⟨_, (ps_set (i := 3) scLaw.nd rfl (.inl rfl) (pe_callH L.bad hr1 (by rfl) pass0 (pa_cons (pv 10) (pa_cons (pv 13) (pa_cons (pv 14) (pa_cons (pv 11) pa_nil)))))), ?_⟩
  intro D H vc vx vy vd dc dx dy dd o0 o1 o2 o3 o4 o5 o6 o7 o8 o9 o12 o15 o16 hc hx hy hd q
  refine ⟨_, rfl, _, rfl, _, rfl, _, rfl, vc, vx, vy, vd, dc, dx, dy, dd, rfl, .dat (hc H), .dat (hx H), hy.th, .dat (hd H), ?_⟩
  cases e : badF dc dx dy dd with
  | none => rw [e] at q; exact q
  | some s => rw [e] at q; exact q
end

/-! ### keywords beside defaults -/
theorem kbinds1 {K : PySem.W.Frag} {x qual : Str} {params : Arguments} {body : List Stmt} {scope : Scope} {dvs : List V} {kws : List (Str × V)} {f : Addr} {fd : FuncData} {ps : List Str} (F : FunD K x qual params body scope dvs kws f fd) (n : Nat) (ks : List Str)
    (g : {α : Type} → List α → List α → List α → List α) (hd : dvs ≠ []) (hrel : ∀ {vs ds zs : List V} {us its ws : List Value}, Vals vs us → Vals ds its → Vals zs ws → Vals (g vs ds zs) (g us its ws))
    (h : ∀ (T : Addr) (kV doc pm : Value) (an : Option Addr) (cdv ct : Value) (us its ws : List Value), us.length = n → its.length = dvs.length → ws.length = ks.length →
      ∃ k, bindArgs (PySem.W.fnOf x qual params body scope (.ref T) kV doc pm an cdv ct) ⟨us, ks.zip ws⟩ = seqItems? (.ref T) >>= k ∧ k (some its.toArray) = pure (ps.zip (g us its ws))) : ∃ its : List Value, KBn K fd ps n ks (fun us ws => g us its ws) (fun vs zs => g vs dvs zs) := by
  obtain ⟨oc, od, dV, kV, doc, pm, an, cdv, ct, osl, rfl, lk, hcd, hD, hK⟩ := F.ex
  rcases hD with ⟨e, _⟩ | ⟨_, T, o, its, m, rfl, lT, oT, rT⟩
  · exact absurd e hd
  · refine ⟨its, ⟨fun s us ws X l1 l2 => ?_, fun r1 r2 => hrel r1 rT r2⟩⟩
    obtain ⟨k, e1, e2⟩ := h T kV doc pm an cdv ct us its ws l1 rT.length.symm l2
    refine BindsTo.of_looks fun M => ?_
    rw [e1]
    exact looks_items X lT oT (.of_pure e2)
/-- what is known of coded -/
structure CodedOk (P : Program) (w : World) (K : PySem.W.Frag) (mg : Str → Option Value) (base : Heap) (CF : Addr) : Prop where
  ex : ∃ (f : Addr) (fd : FuncData), mg "coded" = some (.ref f) ∧ PySem.W.keepIn K (.ref f) = true ∧ FnOk P w K mg base (L2.CX P w) 4 f fd ["code", "x", "y", "d"] (spCoded K CF) ∧ Binds K fd ["code", "x", "y", "d"] [] ∧
    (∃ ds, Vals [.int 0, .int 0, .int 0] ds ∧ Binds K fd ["code", "x", "y", "d"] ds) ∧ ∃ g gV, (∀ a b c, gV [a] [b, c] = [a, c, .int 0, b]) ∧ KBn K fd ["code", "x", "y", "d"] 1 ["d", "x"] g gV
/-! ### found, and what it is held against -/
abbrev qLaw : Str := (envOfC "law" (defScope sLaw) 0 0 .none).qual ++ "<lambda>"
def foundL : Option Str → Int → List V
  | some s, _ => [.str "field", .str s]
  | none, n => [.str "told", .int n]
theorem Im1.ext {K : PySem.W.Frag} {H H' : Hp} {v : V} {d : PyData} (e : LamX.ExtN H H') (h : Im1 K H v d) : Im1 K H' v d := by
  rcases h with h | ⟨a, e1, e2, h⟩
  · exact .inl h
  · exact .inr ⟨a, e1, e2, e _ _ h (by intro x z; cases z)⟩
theorem badF_mem {c x y d : PyData} {s : Str} (h : badF c x y d = some s) : PyData.strOk s = true := by
  unfold badF at h
  split at h
  · cases h; decide +kernel
  · split at h
    · cases h; decide +kernel
    · split at h
      · cases h; decide +kernel
      · split at h
        · cases h; decide +kernel
        · cases h
theorem badF_none {c x y d : PyData} (h : badF c x y d = none) : upTo c 31 = true ∧ upTo x 7 = true ∧ upTo y 7 = true ∧ isI d = true := by
  unfold badF at h
  split at h
  · cases h
  · split at h
    · cases h
    · split at h
      · cases h
      · split at h
        · cases h
        · rename_i a b c d
          exact ⟨by simpa using a, by simpa using b, by simpa using c, by simpa using d⟩
theorem upTo_le {d : PyData} {m : Int} (h : upTo d m = true) : 0 ≤ intOf d ∧ intOf d ≤ m ∧ d = .int (intOf d) := by
  cases d with
  | int i =>
    unfold upTo at h
    simp at h
    exact ⟨h.1, h.2, rfl⟩
  | _ => cases h
theorem isI_eq {d : PyData} (h : isI d = true) : d = .int (intOf d) := by
  cases d with
  | int i => rfl
  | _ => cases h
theorem ok_field : PyData.strOk ("field" : Str) = true := by decide +kernel
theorem ok_toldS : PyData.strOk ("told" : Str) = true := by decide +kernel
theorem sh_field {s : Str} (h : PyData.strOk s = true) : SeqAt.shaped (.tuple [.str "field", .str s]) = true := by
  simp [SeqAt.shaped, PyData.canLay0, PyData.canLayAll0, PyData.depth, PyData.depthAll, h, ok_field]
theorem sh_told {n : Int} : SeqAt.shaped (.tuple [.str "told", .int n]) = true := by
  simp [SeqAt.shaped, PyData.canLay0, PyData.canLayAll0, PyData.depth, PyData.depthAll, ok_toldS]
theorem sh_four {a b c d : Int} : SeqAt.shaped (.tuple [.int a, .int b, .int c, .int d]) = true := by
  simp [SeqAt.shaped, PyData.canLay0, PyData.canLayAll0, PyData.depth, PyData.depthAll]
theorem eqv_field {s : Str} : PyData.eqv (.tuple [.str "field", .str s]) (.tuple [.str "field", .str s]) = true := by
  simp [PyData.eqv, PyData.eqvAll]
theorem eqv_toldS {n : Int} : PyData.eqv (.tuple [.str "told", .int n]) (.tuple [.str "told", .int n]) = true := by
  simp [PyData.eqv, PyData.eqvAll]
theorem eqv_four {a b c d : Int} : PyData.eqv (.tuple [.int a, .int b, .int c, .int d]) (.tuple [.int a, .int b, .int c, .int d]) = true := by
  simp [PyData.eqv, PyData.eqvAll]
/-- fields, instruction of an int -/
theorem sp_int {K : PySem.W.Frag} {CS : Addr} {g : Int → Mul → Option PyData} {n : Int} {H : Hp} {Q : VK} (q : ∀ v H', Same H H' → OptV K H' v (g n []) → Q v H') : spFields K CS g [.int n] H Q E0 := by
  refine ⟨.int n, .int n, rfl, .dat (.int n), ?_, ?_, ?_⟩
  · intro _ _ _ e _
    cases e
  · intro n' ps e
    cases e
    exact ⟨.nil, q⟩
  · intro e
    cases e
theorem fields_nil (n : Int) : fieldsD n [] = some (.tuple [.int (n % 32), .int (n / 32 % 8), .int (n / 256 % 8), .int (n / 2048)]) := by
  simp [fieldsD, odd2, dD]
section
variable {P : Program} {w : World} {K : PySem.W.Frag} {mg : Str → Option Value} {base : Heap} {CF CS f c tb : Addr} {T : List (Addr × Str)} {A : Around} {outer : List Env} {s : Shared} {H0 : Hp} {E : XK}
theorem st6 (L : TL P w K mg base CF CS T) (C : CodedOk P w K mg base CF) (TB : LamX.TabB base mg c tb) (hmT : (tb, qLaw) ∈ T) (hu : ∀ p ∈ T, p.1 = tb → p.2 = qLaw) (hr : Room 13 (XL P w K mg base f c A outer s H0 E).A) : ∃ t, PS (XL P w K mg base f c A outer s H0 E) (lb 6) t ∧
    ∀ (D : Ends) (H : Hp) (vc vx vy vd : V) (dc dx dy dd : PyData) (o0 o1 o2 o3 o4 o5 o6 o7 o8 o9 o12 o15 o16 : Option V), LamX.Tabs T H → Im K vc dc → Im K vx dx → Im1 K H vy dy → Im K vd dd →
      (∀ a H', LamX.ExtN H H' → LamX.Tabs T H' → H' a = some (.tup (foundL (badF dc dx dy dd) (codeI dc dx dy dd))) → D.nx (sg o0 o1 o2 o3 (some (.ref a)) o5 o6 o7 o8 o9 (some vc) (some vd) o12 (some vx) (some vy) o15 o16) H') →
      t D (sg o0 o1 o2 o3 o4 o5 o6 o7 o8 o9 (some vc) (some vd) o12 (some vx) (some vy) o15 o16) H := by
  obtain ⟨fc, fd, hm, hk, F, b4, _, _⟩ := C.ex
  refine ⟨_, (ps_set (i := 4) scLaw.nd rfl (.inl rfl) (pe_met (k := 4) L.met (by rfl) TB rfl hmT hu (hr.mono (by decide)) (LamX.lamS_by (show LamX.lamSB (defScope sLaw) _ = true by decide +kernel)) rfl (fun _ _ _ _ _ => rfl)
    fun A outer s H E f c' hr => pe_call F hr (by rfl) hm hk b4 .nil (passes_call (W := fun cls d _ H => E cls d H) (takes_of rfl rfl rfl rfl) (fun _ _ _ _ h => h)) (pa_cons (pv 10) (pa_cons (pv 13) (pa_cons (pv 14) (pa_cons (pv 11) pa_nil)))))), ?_⟩
  intro D H vc vx vy vd dc dx dy dd o0 o1 o2 o3 o4 o5 o6 o7 o8 o9 o12 o15 o16 hT hc hx hy hd q
  refine ⟨hT, fun H1 e1 t1 => ?_⟩
  refine ⟨_, rfl, _, rfl, _, rfl, _, rfl, vc, vx, vy, vd, dc, dx, dy, dd, rfl, .dat (hc H1), .dat (hx H1), (hy.ext e1).th, .dat (hd H1), fun hn => ?_, fun s hs dx2 hdx => ?_⟩
  · refine ⟨(by show 2 ≤ sizeLine; decide), fun p hp => ?_⟩
    have s2 := same_new (o := .tup [.str "told", .int (codeI dc dx dy dd)]) hp
    refine q p _ (e1.trans (LamX.ExtN.of s2)) (t1.ext s2) ?_
    rw [hn]
    exact upd_same
  · refine .inl ⟨dx2, _, rfl, rfl, upd_same, fun p hp => ?_⟩
    have s2 := (same_new (o := .xd [("name", .str s)]) hdx).trans (same_new (o := .tup [.str "field", .str s]) hp)
    refine q p _ (e1.trans (LamX.ExtN.of s2)) (t1.ext s2) ?_
    rw [hs]
    exact upd_same
theorem st7 (L : TL P w K mg base CF CS T) (C : CodedOk P w K mg base CF) (hr : Room 13 (XL P w K mg base f c A outer s H0 E).A) : ∃ t, PS (XL P w K mg base f c A outer s H0 E) (lb 7) t ∧
    ∀ (D : Ends) (H : Hp) (a : Addr) (vc vx vy vd : V) (dc dx dy dd : PyData) (o0 o1 o2 o5 o6 o7 o8 o9 o12 o15 o16 : Option V), Im K vc dc → Im K vx dx → Im1 K H vy dy → Im K vd dd →
      H a = some (.tup (foundL (badF dc dx dy dd) (codeI dc dx dy dd))) →
      (∀ H', Same H H' → D.nx (sg o0 o1 o2 (some (badV (badF dc dx dy dd))) (some (.ref a)) o5 o6 o7 o8 o9 (some vc) (some vd) o12 (some vx) (some vy) o15 o16) H') →
      t D (sg o0 o1 o2 (some (badV (badF dc dx dy dd))) (some (.ref a)) o5 o6 o7 o8 o9 (some vc) (some vd) o12 (some vx) (some vy) o15 o16) H := by
  obtain ⟨fc, fd, hm, hk, F, b4, ⟨ds, hds, b1⟩, g, gV, hgV, bk⟩ := C.ex
  have hu64 := hr.units
  have hr7 : Room 7 (XL P w K mg base f c A outer s H0 E).A := hr.mono (by decide)
  have hr4 : Room 4 (XL P w K mg base f c A outer s H0 E).A := hr.mono (by decide)
  refine ⟨_, (ps_if (pt_cmpR op_notN (pv 3) pe_non (nomark _)) (pss_one (ps_if (pt_cmpR (op_neD hu64) (pv 4) (pe_tup (pa_cons pe_str (pa_cons (pv 3) pa_nil))) (nomark _)) (pss_one (ps_ret pe_bl)) pss_nil))
    (pss_one (ps_if (pt_cmpR (op_neD hu64) (pv 4) (pe_tup (pa_cons pe_str (pa_cons (pe_op op_add (pe_op op_add (pe_op op_add (pv 10) (pe_op op_mul pe_int (pv 13))) (pe_op op_mul pe_int (pv 14))) (pe_op op_mul pe_int (pv 11))) pa_nil))) (nomark _)) (pss_one (ps_ret pe_bl))
      (pss_one (ps_if (PW.pt (pw_or (pt_cmpR (op_neD hu64) (pe_callH L.fields hr7 (by rfl) passL (pa_cons (pe_ix ix_tup (pv 4) pe_int (fun _ _ => rfl)) pa_nil)) (pe_tup (pa_cons (pv 10) (pa_cons (pv 13) (pa_cons (pv 14) (pa_cons (pv 11) pa_nil))))) (nomark _)) (pw_or (pt_cmpR op_ne (pe_call F hr4 (by rfl) hm hk b1 hds passL (pa_cons (pv 10) pa_nil)) (pv 10) (nomark _))
        (pw_or1 (pt_cmpR op_ne (pe_callN F hr4 (by rfl) hm hk bk passL (pa_cons (pv 10) pa_nil) (pk_cons (pv 11) (pk_cons (pv 13) pk_nil))) (pe_op op_sub (pe_ix ix_tup (pv 4) pe_int (fun _ _ => rfl)) (pe_op op_mul pe_int (pv 14))) (nomark _)))))) (pss_one (ps_ret pe_bl)) pss_nil))))), ?_⟩
  intro D H a vc vx vy vd dc dx dy dd o0 o1 o2 o5 o6 o7 o8 o9 o12 o15 o16 hc hx hy hd ha q
  cases e : badF dc dx dy dd with
  | some s =>
    rw [e] at ha q
    refine ⟨_, rfl, rfl, _, rfl, iteT ?_⟩
    refine ⟨_, rfl, _, rfl, (by show 2 ≤ sizeLine; decide), fun t ht => ?_⟩
    have s1 := same_new (o := .tup [.str "field", .str s]) ht
    have h1 := s1 _ _ ha
    have hs := sh_field (badF_mem e)
    refine ⟨_, _, .tup (SqT.of h1) (.cons (.str _) (.cons (.str s) .nil)), .tup (SqT.of upd_same) (.cons (.str _) (.cons (.str s) .nil)), hs, hs, _, rfl, ?_⟩
    rw [eqv_field]
    exact iteF (q _ s1)
  | none =>
    rw [e] at ha q
    obtain ⟨u1, u2, u3, u4⟩ := badF_none e
    obtain ⟨l1, m1, e1⟩ := upTo_le u1
    obtain ⟨l2, m2, e2⟩ := upTo_le u2
    obtain ⟨l3, m3, e3⟩ := upTo_le u3
    have e4 := isI_eq u4
    obtain rfl := upTo_int u1 (.dat (hc H))
    obtain rfl := upTo_int u2 (.dat (hx H))
    obtain rfl := upTo_int u3 hy.th
    obtain rfl := isI_int u4 (.dat (hd H))
    have hn : codeI dc dx dy dd = intOf dc + 32 * intOf dx + 256 * intOf dy + 2048 * intOf dd := rfl
    generalize hcc : intOf dc = ci at *
    generalize hxx : intOf dx = xi at *
    generalize hyy : intOf dy = yi at *
    generalize hdd : intOf dd = di at *
    rw [hn] at ha
    refine ⟨_, rfl, rfl, _, rfl, iteF ?_⟩
    refine ⟨_, rfl, _, rfl, _, rfl, _, _, rfl, rfl, .inl ⟨by decide, by decide⟩, _, _, rfl, rfl, _, rfl, _, _, rfl, rfl, .inl ⟨by decide, by decide⟩, _, _, rfl, rfl, _, rfl, _, _, rfl, rfl, .inl ⟨by decide, by decide⟩, _, _, rfl, rfl, (by show 2 ≤ sizeLine; decide), fun t ht => ?_⟩
    have s1 := same_new (o := .tup [.str "told", .int (ci + 32 * xi + 256 * yi + 2048 * di)]) ht
    have h1 := s1 _ _ ha
    refine ⟨_, _, .tup (SqT.of h1) (.cons (.str _) (.cons (.int _) .nil)), .tup (SqT.of upd_same) (.cons (.str _) (.cons (.int _) .nil)), sh_told, sh_told, _, rfl, ?_⟩
    rw [eqv_toldS]
    refine iteF ?_
    refine ⟨_, rfl, a, _, _, _, rfl, rfl, SqT.of h1, at_nat (by decide) rfl, sp_int fun v2 H2 s2 o2 => ?_⟩
    rw [fields_nil] at o2
    refine ⟨_, rfl, _, rfl, _, rfl, _, rfl, (by show 4 ≤ sizeLine; decide), fun t3 ht3 => ?_⟩
    have s3 := same_new (o := .tup [.int ci, .int xi, .int yi, .int di]) ht3
    refine ⟨_, _, dp_same s3 o2, .tup (SqT.of upd_same) (.cons (.int _) (.cons (.int _) (.cons (.int _) (.cons (.int _) .nil)))), sh_four, sh_four, _, rfl, ?_⟩
    have f1 : (ci + 32 * xi + 256 * yi + 2048 * di) % 32 = ci := by omega
    have f2 : (ci + 32 * xi + 256 * yi + 2048 * di) / 32 % 8 = xi := by omega
    have f3 : (ci + 32 * xi + 256 * yi + 2048 * di) / 256 % 8 = yi := by omega
    have f4 : (ci + 32 * xi + 256 * yi + 2048 * di) / 2048 = di := by omega
    rw [f1, f2, f3, f4, eqv_four]
    refine iteF ?_
    have b1n : badF dc (.int 0) (.int 0) (.int 0) = none := by
      unfold badF
      rw [if_neg (by rw [u1]; exact Bool.noConfusion)]
      rfl
    have c1 : codeI dc (.int 0) (.int 0) (.int 0) = ci := by
      unfold codeI
      rw [hcc]
      simp [intOf]
    refine ⟨_, rfl, .int ci, .int 0, .int 0, .int 0, dc, .int 0, .int 0, .int 0, rfl, .dat (hc _), .dat (.int 0), .dat (.int 0), .dat (.int 0), fun _ => ?_, fun s hs => by rw [b1n] at hs; cases hs⟩
    rw [c1]
    refine ⟨_, rfl, rfl, _, rfl, ?_⟩
    rw [decide_eq_true rfl]
    refine iteF ?_
    have b2n : badF dc dx (.int 0) dd = none := by
      unfold badF
      rw [if_neg (by rw [u1]; exact Bool.noConfusion), if_neg (by rw [u2]; exact Bool.noConfusion), if_neg (show ¬ upTo (.int 0) 7 = false by decide), if_neg (by rw [u4]; exact Bool.noConfusion)]
    have c2 : codeI dc dx (.int 0) dd = ci + 32 * xi + 256 * 0 + 2048 * di := by
      unfold codeI
      rw [hcc, hxx, hdd]
      rfl
    refine ⟨_, rfl, _, rfl, _, rfl, rfl, rfl, ?_⟩
    rw [hgV]
    refine ⟨.int ci, .int xi, .int 0, .int di, dc, dx, .int 0, dd, rfl, .dat (hc _), .dat (hx _), .dat (.int 0), .dat (hd _), fun _ => ?_, fun s hs => by rw [b2n] at hs; cases hs⟩
    rw [c2]
    have sm := (s1.trans s2).trans s3
    refine ⟨_, rfl, a, _, _, _, rfl, rfl, SqT.of (sm _ _ ha), at_nat (by decide) rfl, _, rfl, _, _, rfl, rfl, .inl ⟨by decide, by decide⟩, _, _, rfl, rfl, rfl, _, rfl, ?_⟩
    have e5 : ci + 32 * xi + 256 * 0 + 2048 * di = ci + 32 * xi + 256 * yi + 2048 * di - 256 * yi := by omega
    rw [e5, decide_eq_true rfl]
    exact iteF (q _ sm)
end

/-! ### words in their one form are read as they are -/
theorem ne_ba : ¬ uB = uA := by decide +kernel
theorem unk_a : readUnk (unkD uA) = some uA := by decide +kernel
theorem unk_b : readUnk (unkD uB) = some uB := by decide +kernel
theorem add_a (acc : Mul) (m : Int) : addPart acc (partD (uA, m)) = some (putI acc uA (getI acc uA + m)) := by
  have e : items (partD (uA, m)) = some [unkD uA, .int m] := rfl
  unfold addPart
  rw [e]
  dsimp only
  rw [unk_a]
  rfl
theorem add_b (acc : Mul) (m : Int) : addPart acc (partD (uB, m)) = some (putI acc uB (getI acc uB + m)) := by
  have e : items (partD (uB, m)) = some [unkD uB, .int m] := rfl
  unfold addPart
  rw [e]
  dsimp only
  rw [unk_b]
  rfl
theorem put_b1 (m : Int) : putI [] uB (getI [] uB + m) = [(uB, m)] := by
  have e : getI [] uB = 0 := rfl
  rw [e, Int.zero_add]
  rfl
theorem le2_ab : le2 uA uB = true := by decide +kernel
theorem get_1 (u : List Key) (m : Int) : getI [(u, m)] u = m := by
  unfold getI
  rw [List.find?_cons_of_pos (by simp)]
  rfl
theorem form_1 {u : List Key} {m : Int} (h : m ≠ 0) : form [(u, m)] = [(u, m)] := by
  have e : keysN [(u, m)] = [u] := by
    unfold keysN
    show [u].filter _ = _
    rw [List.filter_cons, get_1]
    simp [h]
  unfold form
  rw [e]
  have e2 : [u].mergeSort le2 = [u] := List.mergeSort_of_pairwise (by simp)
  rw [e2]
  show [(u, getI [(u, m)] u)] = _
  rw [get_1]
theorem form_2 (m1 m2 : Int) : form (two m1 m2) = norm m1 m2 := by
  unfold form norm
  have e : (keysN (two m1 m2)).mergeSort le2 = keysN (two m1 m2) := by
    refine List.mergeSort_of_pairwise ?_
    rw [keys_two]
    by_cases h1 : m1 = 0 <;> by_cases h2 : m2 = 0 <;> simp [h1, h2, le2_ab]
  rw [e]
/-- such a word -/
def Canon (ps : Mul) : Prop := ∀ n, readSum (sumD n ps) = some (n, ps)
theorem canon_of {ps acc : Mul} (h : readParts (ps.map partD) [] = some acc) (e : form acc = ps) : Canon ps := fun n => by
  show (readParts (ps.map partD) []).map (fun kvs => (n, form kvs)) = _
  rw [h]
  show some (n, form acc) = _
  rw [e]
theorem canon_nil : Canon [] := canon_of (acc := []) rfl (by simp [form, keysN])
theorem canon_norm (m1 m2 : Int) : Canon (norm m1 m2) := by
  have hn : norm m1 m2 = (keysN (two m1 m2)).map fun u => (u, getI (two m1 m2) u) := rfl
  by_cases h1 : m1 = 0 <;> by_cases h2 : m2 = 0
  · rw [hn, keys_two, if_pos h1, if_pos h2]
    exact canon_nil
  · have e : norm m1 m2 = [(uB, m2)] := by
      rw [hn, keys_two, if_pos h1, if_neg h2]
      show [(uB, getI (two m1 m2) uB)] = _
      rw [get_b]
    rw [e]
    refine canon_of (acc := [(uB, m2)]) ?_ (form_1 h2)
    show (addPart [] (partD (uB, m2))).bind (readParts []) = _
    rw [add_b, put_b1]
    rfl
  · have e : norm m1 m2 = [(uA, m1)] := by
      rw [hn, keys_two, if_neg h1, if_pos h2]
      show [(uA, getI (two m1 m2) uA)] = _
      rw [get_a]
    rw [e]
    refine canon_of (acc := [(uA, m1)]) ?_ (form_1 h1)
    show (addPart [] (partD (uA, m1))).bind (readParts []) = _
    rw [add_a, put_1]
    rfl
  · have e : norm m1 m2 = two m1 m2 := by
      rw [hn, keys_two, if_neg h1, if_neg h2]
      show [(uA, getI (two m1 m2) uA), (uB, getI (two m1 m2) uB)] = _
      rw [get_a, get_b]
      rfl
    have c : Canon (norm m1 m2) := by
      refine canon_of (acc := two m1 m2) ?_ (form_2 m1 m2)
      rw [e]
      show (addPart [] (partD (uA, m1))).bind (readParts [partD (uB, m2)]) = _
      rw [add_a, put_1]
      show (addPart [(uA, m1)] (partD (uB, m2))).bind (readParts []) = _
      rw [add_b, put_2]
      rfl
    exact c
theorem okPart_u {u : List Key} {m : Int} (h : u = uA ∨ u = uB) : okPart (partD (u, m)) := by
  intro x m' e
  have e2 : [unkD u, PyData.int m] = [x, .int m'] := Option.some.inj e
  cases e2
  rcases h with rfl | rfl
  · refine ⟨(fun xs z => by cases z), ⟨(by show Str.length _ ≤ 1000; decide +kernel), (by show Str.length _ ≤ 1000; decide +kernel)⟩, fun u hu => ?_⟩
    rw [unk_a] at hu
    cases hu
    exact nmA
  · refine ⟨(fun xs z => by cases z), ⟨(by show Str.length _ ≤ 1000; decide +kernel), (by show Str.length _ ≤ 1000; decide +kernel)⟩, fun u hu => ?_⟩
    rw [unk_b] at hu
    cases hu
    exact nmB
theorem ab_okSum {ps : Mul} (h : Ab ps) (n : Int) : okSum (sumD n ps) := by
  intro n' q ds e1 e2
  have e3 : [PyData.int n, .tuple (ps.map partD)] = [.int n', q] := Option.some.inj e1
  cases e3
  have e4 : ps.map partD = ds := Option.some.inj e2
  subst e4
  cases h with
  | nil => exact ⟨by decide, fun p hp => by cases hp⟩
  | a m =>
    refine ⟨by show 1 ≤ 1000; decide, fun p hp => ?_⟩
    obtain rfl := List.mem_singleton.mp hp
    exact okPart_u (.inl rfl)
  | b m =>
    refine ⟨by show 1 ≤ 1000; decide, fun p hp => ?_⟩
    obtain rfl := List.mem_singleton.mp hp
    exact okPart_u (.inr rfl)
  | ab m k =>
    refine ⟨by show 2 ≤ 1000; decide, fun p hp => ?_⟩
    rcases List.mem_cons.mp hp with rfl | hp
    · exact okPart_u (.inl rfl)
    · obtain rfl := List.mem_singleton.mp hp
      exact okPart_u (.inr rfl)
theorem sp_sum {K : PySem.W.Frag} {CS : Addr} {g : Int → Mul → Option PyData} {n : Int} {ps : Mul} {v : V} {H : Hp} {Q : VK} (ab : Ab ps) (cn : Canon ps) (hv : Dp K H v (sumD n ps)) (q : ∀ v H', Same H H' → OptV K H' v (g n ps) → Q v H') : spFields K CS g [v] H Q E0 := by
  refine ⟨v, _, rfl, .dat hv, ab_okSum ab n, ?_, ?_⟩
  · intro n' ps' e
    rw [cn n] at e
    cases e
    exact ⟨ab, q⟩
  · intro e
    rw [cn n] at e
    cases e
/-! ### what is compared -/
def optD (o : Option PyData) : PyData := o.getD .none
theorem optV_dp {K : PySem.W.Frag} {H : Hp} {v : V} {o : Option PyData} (h : OptV K H v o) : Dp K H v (optD o) := by
  cases o with
  | none =>
    obtain rfl : v = .non := h
    exact .non
  | some d => exact h
theorem optV_same {K : PySem.W.Frag} {H H' : Hp} {v : V} {o : Option PyData} (e : Same H H') (h : OptV K H v o) : OptV K H' v o := by
  cases o with
  | none => exact h
  | some d => exact dp_same e h
theorem plain_sum {ps : Mul} (h : Ab ps) (n : Int) : (sumD n ps).plain = true := by
  cases h <;> rfl
theorem plain_dD {ps : Mul} (h : Ab ps) (n : Int) : (dD n ps).plain = true := by
  unfold dD
  split
  · rfl
  · exact plain_sum h.div _
theorem plain_3 {a b c d : PyData} (h1 : a.plain = true) (h2 : b.plain = true) (h3 : c.plain = true) (h4 : d.plain = true) : (PyData.tuple [a, b, c, d]).plain = true := by
  simp [PyData.plain, PyData.plainAll, h1, h2, h3, h4]
theorem plain_fields {ps : Mul} (h : Ab ps) (n : Int) : (optD (fieldsD n ps)).plain = true := by
  unfold fieldsD
  split
  · rfl
  · exact plain_3 rfl rfl rfl (plain_dD h n)
theorem plain_instr {ps : Mul} (h : Ab ps) (n : Int) : (optD (instrD n ps)).plain = true := by
  unfold instrD
  split
  · rfl
  · split
    · rfl
    · split
      · rfl
      · exact plain_3 rfl rfl rfl (plain_dD h n)
theorem called_ok : ∀ s ∈ ("" : Str) :: calledL, PyData.strOk s = true := by decide +kernel
theorem calledS_ok (n : Int) : PyData.strOk (calledS n) = true := by
  unfold calledS
  rw [List.getD_eq_getElem?_getD]
  cases e : calledL[(n % 32).toNat]? with
  | none => exact called_ok _ (List.mem_cons_self ..)
  | some s => exact called_ok _ (List.mem_cons_of_mem _ (List.mem_of_getElem? e))
theorem shaped_4 {a b c d : PyData} (h1 : ∃ i, a = .int i ∨ (∃ s, a = .str s ∧ PyData.strOk s = true)) (h2 : ∃ i, b = .int i) (h3 : ∃ i, c = .int i) {ps : Mul} {n : Int} (ab : Ab ps) (h4 : d = dD n ps) : SeqAt.shaped (PyData.tuple [a, b, c, d]) = true := by
  obtain ⟨i2, rfl⟩ := h2
  obtain ⟨i3, rfl⟩ := h3
  subst h4
  obtain ⟨i1, h1⟩ := h1
  have ea : ∀ x : PyData, x = a → SeqAt.shaped (PyData.tuple [x, .int i2, .int i3, dD n ps]) = true := by
    intro x hx
    unfold dD
    split
    · rcases h1 with h1 | ⟨s, h1, hs⟩
      · rw [hx, h1]
        exact sh_four
      · rw [hx, h1]
        simp [SeqAt.shaped, PyData.canLay0, PyData.canLayAll0, PyData.depth, PyData.depthAll, hs]
    · have hd := ab.div
      generalize div2 ps = qs at hd
      rcases h1 with h1 | ⟨s, h1, hs⟩
      · rw [hx, h1]
        cases hd <;> simp [SeqAt.shaped, sumD, partD, unkD, uA, uB, keyDat, PyData.canLay0, PyData.canLayAll0, PyData.depth, PyData.depthAll, ok_piece, ok_a, ok_b]
      · rw [hx, h1]
        cases hd <;> simp [SeqAt.shaped, sumD, partD, unkD, uA, uB, keyDat, PyData.canLay0, PyData.canLayAll0, PyData.depth, PyData.depthAll, ok_piece, ok_a, ok_b, hs]
  exact ea a rfl
theorem shaped_non : SeqAt.shaped .none = true := by decide +kernel
theorem shaped_fields {ps : Mul} (h : Ab ps) (n : Int) : SeqAt.shaped (optD (fieldsD n ps)) = true := by
  unfold fieldsD
  split
  · exact shaped_non
  · exact shaped_4 ⟨_, .inl rfl⟩ ⟨_, rfl⟩ ⟨_, rfl⟩ h rfl
theorem shaped_instr {ps : Mul} (h : Ab ps) (n : Int) : SeqAt.shaped (optD (instrD n ps)) = true := by
  unfold instrD
  split
  · exact shaped_non
  · split
    · exact shaped_non
    · split
      · exact shaped_non
      · exact shaped_4 ⟨0, .inr ⟨_, rfl, calledS_ok n⟩⟩ ⟨_, rfl⟩ ⟨_, rfl⟩ h rfl
/-- two values of the same data are not unlike -/
theorem ne_go {K : PySem.W.Frag} {H : Hp} {x y : V} {d : PyData} {Q : VK} (hx : Dp K H x d) (hy : Dp K H y d) (hs : SeqAt.shaped d = true) (hp : d.plain = true) (q : Q (.bl false) H) : rNeD K x y H Q := by
  refine ⟨d, d, hx, hy, hs, hs, ?_⟩
  rw [SeqAt.eqv_refl_plain d hp]
  exact q

/-! ### the law: number, pairs, words -/
def isIntB : V → Bool
  | .int _ => true
  | _ => false
theorem all_int {vs : List V} {v : V} (h : vs.all isIntB = true) (hv : v ∈ vs) : ∃ n, v = .int n := by
  have z := List.all_eq_true.mp h v hv
  cases v with
  | int i => exact ⟨i, rfl⟩
  | _ => cases z
theorem PoolL.ne {H : Hp} {p a : Addr} {k : Nat} (h : PoolL H p k) (e : H a = none) : a ≠ p := fun z => by
  obtain ⟨x, y, w, hl⟩ := h.lst
  rw [z, hl] at e
  cases e
theorem pairAt_dr {H H' : Hp} {p : Addr} {k : Nat} (hp : PoolL H p k) (e : Dr p H H') {y : V} {u : List Key} {m : Int} (h : PairAt H y u m) : PairAt H' y u m := by
  obtain ⟨t, ua, rfl, h1, h2⟩ := h
  have kn := e.kn hp
  exact ⟨t, ua, rfl, kn _ _ h1 (by intro x z; cases z) (by intro x z; cases z), kn _ _ h2 (by intro x z; cases z) (by intro x z; cases z)⟩
theorem sp_of {K : PySem.W.Frag} {CS : Addr} {g : Int → Mul → Option PyData} {n : Int} {ps : Mul} {v : V} {d : PyData} {H : Hp} {Q : VK} (ab : Ab ps) (hv : Th K H v d) (ok : okSum d) (cn : readSum d = some (n, ps)) (q : ∀ v H', Same H H' → OptV K H' v (g n ps) → Q v H') : spFields K CS g [v] H Q E0 := by
  refine ⟨v, _, rfl, hv, ok, ?_, ?_⟩
  · intro n' ps' e
    rw [cn] at e
    cases e
    exact ⟨ab, q⟩
  · intro e
    rw [cn] at e
    cases e
def innerBody : List Stmt := match lb 10 with
  | .For _ _ b _ _ => b
  | _ => []
abbrev ib (i : Nat) : Stmt := innerBody.getD i (.Pass ⟨0, 0, 0, 0⟩)
section
variable {P : Program} {w : World} {K : PySem.W.Frag} {mg : Str → Option Value} {base : Heap} {CF CS f c : Addr} {T : List (Addr × Str)} {A : Around} {outer : List Env} {s : Shared} {H0 : Hp} {E : XK}
theorem st8 (L : TL P w K mg base CF CS T) (hr : Room 13 (XL P w K mg base f c A outer s H0 E).A) : ∃ t, PS (XL P w K mg base f c A outer s H0 E) (lb 8) t ∧
    ∀ (D : Ends) (H : Hp) (p : Addr) (o0 o1 o3 o4 o5 o6 o7 o8 o9 o10 o11 o12 o13 o14 o15 o16 : Option V), PoolL H p 10 →
      (∀ n H', Dr p H H' → PoolL H' p 14 → D.nx (sg o0 o1 (some (.ref p)) o3 o4 (some (.int n)) o6 o7 o8 o9 o10 o11 o12 o13 o14 o15 o16) H') →
      t D (sg o0 o1 (some (.ref p)) o3 o4 o5 o6 o7 o8 o9 o10 o11 o12 o13 o14 o15 o16) H := by
  have hr2 : Room 2 (XL P w K mg base f c A outer s H0 E).A := hr.mono (by decide)
  have hr1 : Room 1 (XL P w K mg base f c A outer s H0 E).A := hr.mono (by decide)
  refine ⟨_, (ps_set (i := 5) scLaw.nd rfl (.inl rfl) (pe_callH L.one hr2 (by rfl) pass0 (pa_cons (pv 2) (pa_cons (pe_lst (pa_cons (pe_callH L.take hr1 (by rfl) pass0 (pa_cons (pv 2) (pa_cons pe_int pa_nil))) (pa_cons (pe_un un_neg (pe_callH L.take hr1 (by rfl) pass0 (pa_cons (pv 2) (pa_cons pe_int pa_nil)))) (pa_cons (pe_callH L.take hr1 (by rfl) pass0 (pa_cons (pv 2) (pa_cons pe_int pa_nil))) (pa_cons (pe_op op_pow pe_int pe_int) (pa_cons (pe_un un_neg pe_int) pa_nil)))))) pa_nil)))), ?_⟩
  intro D H p o0 o1 o3 o4 o5 o6 o7 o8 o9 o10 o11 o12 o13 o14 o15 o16 hp q
  refine draw_go (k := 13) (fun vs h => vs.all isIntB = true ∧ 0 < vs.length ∧ vs.length ≤ 100 ∧ Dr p H h ∧ PoolL h p 13) rfl (by decide) (fun R h => ?_) (fun vs h ⟨_, l0, l1, _, hp⟩ => ⟨hp, l0, l1⟩) fun vs h v H' ⟨ha, _, _, d0, _⟩ hv d1 p1 => ?_
  · refine take_go rfl hp (by decide) (by decide) (by decide) fun r1 H1 _ _ d1 p1 => ?_
    refine take_go rfl p1 (by decide) (by decide) (by decide) fun r2 H2 _ _ d2 p2 => ⟨_, rfl, ?_⟩
    refine take_go rfl p2 (by decide) (by decide) (by decide) fun r3 H3 _ _ d3 p3 => ?_
    exact ⟨_, _, rfl, rfl, ⟨by decide, by decide, by decide⟩, _, rfl, h _ _ ⟨rfl, by simp, by simp, (d1.trans d2).trans d3, p3⟩⟩
  · obtain ⟨n, rfl⟩ := all_int ha hv
    exact q n H' (d0.trans d1) p1
theorem st9 (L : TL P w K mg base CF CS T) (hr : Room 13 (XL P w K mg base f c A outer s H0 E).A) : ∃ t, PS (XL P w K mg base f c A outer s H0 E) (lb 9) t ∧
    ∀ (D : Ends) (H : Hp) (p : Addr) (o0 o1 o3 o4 o5 o6 o7 o8 o9 o10 o11 o12 o13 o14 o15 o16 : Option V), PoolL H p 14 →
      (∀ a y1 y2 m1 m2 H', Dr p H H' → PoolL H' p 16 → H' a = some (.lst [y1, y2]) → PairAt H' y1 uA m1 → PairAt H' y2 uB m2 → D.nx (sg o0 o1 (some (.ref p)) o3 o4 o5 (some (.ref a)) o7 o8 o9 o10 o11 o12 o13 o14 o15 o16) H') →
      t D (sg o0 o1 (some (.ref p)) o3 o4 o5 o6 o7 o8 o9 o10 o11 o12 o13 o14 o15 o16) H := by
  have hr2 : Room 2 (XL P w K mg base f c A outer s H0 E).A := hr.mono (by decide)
  refine ⟨_, (ps_set (i := 6) scLaw.nd rfl (.inl rfl) (pe_lst (pa_cons (pe_tup (pa_cons (pe_tup (pa_cons pe_str (pa_cons pe_str pa_nil))) (pa_cons (pe_callH L.one hr2 (by rfl) pass0 (pa_cons (pv 2) (pa_cons (pe_lst (pa_cons pe_int (pa_cons pe_int (pa_cons (pe_un un_neg pe_int) (pa_cons pe_int (pa_cons pe_int (pa_cons pe_int pa_nil))))))) pa_nil))) pa_nil))) (pa_cons (pe_tup (pa_cons (pe_tup (pa_cons pe_str (pa_cons pe_str pa_nil))) (pa_cons (pe_callH L.one hr2 (by rfl) pass0 (pa_cons (pv 2) (pa_cons (pe_lst (pa_cons pe_int (pa_cons (pe_un un_neg pe_int) pa_nil))) pa_nil))) pa_nil))) pa_nil)))), ?_⟩
  intro D H p o0 o1 o3 o4 o5 o6 o7 o8 o9 o10 o11 o12 o13 o14 o15 o16 hp q
  refine ⟨(by show 2 ≤ sizeLine; decide), fun ua hua => ?_⟩
  have s1 := same_new (o := .tup [.str sPiece, .str "a"]) hua
  have p1 := hp.same s1
  refine draw_go0 (k := 14) rfl (by decide) (fun R h => ⟨_, rfl, h⟩) p1 (by simp) (by simp) fun v1 H2 hv1 d2 p2 => ?_
  obtain ⟨m1, rfl⟩ := all_int (by rfl) hv1
  have hua2 : H2 ua = some (.tup [.str sPiece, .str "a"]) := d2 _ _ (hp.ne hua) upd_same
  refine ⟨(by show 2 ≤ sizeLine; decide), fun t1 ht1 => ?_⟩
  have s3 := same_new (o := .tup [.ref ua, .int m1]) ht1
  have p3 := p2.same s3
  have pa3 : PairAt (upd H2 t1 (.tup [.ref ua, .int m1])) (.ref t1) uA m1 := ⟨t1, ua, rfl, upd_same, s3 _ _ hua2⟩
  refine ⟨(by show 2 ≤ sizeLine; decide), fun ub hub => ?_⟩
  have s4 := same_new (o := .tup [.str sPiece, .str "b"]) hub
  have p4 := p3.same s4
  have pa4 := pairAt_same s4 pa3
  have hub4 := p3.ne hub
  have eub : (upd (upd H2 t1 (.tup [.ref ua, .int m1])) ub (.tup [.str sPiece, .str "b"])) ub = some (.tup [.str sPiece, .str "b"]) := upd_same
  have dr4 : Dr p H (upd (upd H2 t1 (.tup [.ref ua, .int m1])) ub (.tup [.str sPiece, .str "b"])) := (((Dr.same s1).trans d2).trans (.same s3)).trans (.same s4)
  refine draw_go0 (k := 15) rfl (by decide) (fun R h => ⟨_, rfl, h⟩) p4 (by simp) (by simp) fun v2 H5 hv2 d5 p5 => ?_
  obtain ⟨m2, rfl⟩ := all_int (by rfl) hv2
  have pa5 := pairAt_dr p4 d5 pa4
  have hub5 := d5 _ _ hub4 eub
  refine ⟨(by show 2 ≤ sizeLine; decide), fun t2 ht2 => ?_⟩
  have s6 := same_new (o := .tup [.ref ub, .int m2]) ht2
  have pb6 : PairAt (upd H5 t2 (.tup [.ref ub, .int m2])) (.ref t2) uB m2 := ⟨t2, ub, rfl, upd_same, s6 _ _ hub5⟩
  refine ⟨(by show 2 ≤ sizeLine; decide), fun l hl => ?_⟩
  have s7 := same_new (o := .lst [.ref t1, .ref t2]) hl
  exact q l _ _ m1 m2 _ ((dr4.trans d5).trans (.same (s6.trans s7))) (p5.same (s6.trans s7)) upd_same (pairAt_same (s6.trans s7) pa5) (pairAt_same s7 pb6)
end

/-! ### the law: each word -/
section
variable {P : Program} {w : World} {K : PySem.W.Frag} {mg : Str → Option Value} {base : Heap} {CF CS f c : Addr} {T : List (Addr × Str)} {A : Around} {outer : List Env} {s : Shared} {H0 : Hp} {E : XK}
theorem it0 (L : TL P w K mg base CF CS T) (hr : Room 13 (XL P w K mg base f c A outer s H0 E).A) : ∃ t, PS (XL P w K mg base f c A outer s H0 E) (ib 0) t ∧
    ∀ (D : Ends) (H : Hp) (v : V) (n : Int) (ps : Mul) (o0 o1 o2 o3 o4 o5 o6 o8 o9 o10 o11 o12 o13 o14 o15 o16 : Option V), Dp K H v (sumD n ps) → Ab ps →
      (∀ vf H', Same H H' → Dp K H' vf (.tuple ((div2 ps).map partD)) → D.nx (sg o0 o1 o2 o3 o4 o5 o6 (some v) (some vf) o9 o10 o11 o12 o13 o14 o15 o16) H') →
      t D (sg o0 o1 o2 o3 o4 o5 o6 (some v) o8 o9 o10 o11 o12 o13 o14 o15 o16) H := by
  refine ⟨_, (ps_set (i := 8) scLaw.nd rfl (.inl rfl) (pe_callTy call_tuple_of (by rfl) L.bi.tuple (by decide +kernel) (pa_cons (pe_lc (own := [("unknown", 15), ("many", 16)]) (g := gTup K 2 (gCons (gName 15) (gCons (gName 16) gNil))) (tt := tYes) rfl scLaw.nd (pi_tup (pe_ix ix_tup (pv 7) pe_int (fun _ _ => rfl))) (blkOk_by (N := NL) (sc := defScope sLaw) (by decide +kernel)) (fun _ _ _ _ _ => (pg_tup rfl (pgs_cons (pg_name (i := 15) scLaw.nd rfl (.inl rfl) (.inr rfl)) (pgs_cons (pg_name (i := 16) scLaw.nd rfl (.inl rfl) (.inr rfl)) pgs_nil)))) (fun _ _ _ _ _ => pts_nil) (fun _ _ _ _ _ => (pe_tup (pa_cons (pv 15) (pa_cons (pe_op op_fdiv (pv 16) pe_int) pa_nil))))) pa_nil))), ?_⟩
  intro D H v n ps o0 o1 o2 o3 o4 o5 o6 o8 o9 o10 o11 o12 o13 o14 o15 o16 hv ab q
  obtain ⟨a, xs, rfl, hs, ha⟩ := th_tup (.dat hv)
  obtain ⟨v1, v2, rfl, h1, h2⟩ := dps_two ha
  obtain ⟨b, ys, rfl, hb, hby⟩ := th_tup (.dat h2)
  refine tAsg_goH (far_go (ps := ps) (ys := ys) (pb := b) (fun R h => ⟨_, rfl, a, _, _, _, rfl, rfl, hs, at_nat (by decide) rfl, h⟩) hb hby (Nat.le_trans ab.len (by decide)) (fun _ _ => rfl) (fun _ _ => rfl) (fun _ _ => rfl) fun vf H7 s7 hvf => ?_)
  exact q vf H7 s7 hvf
theorem it1 (hr : Room 13 (XL P w K mg base f c A outer s H0 E).A) : ∃ t, PS (XL P w K mg base f c A outer s H0 E) (ib 1) t ∧
    ∀ (D : Ends) (H : Hp) (vf : V) (n : Int) (ps : Mul) (o0 o1 o2 o3 o4 o6 o7 o9 o10 o11 o12 o13 o14 o15 o16 : Option V), Dp K H vf (.tuple ((div2 ps).map partD)) → Ab ps →
      (∀ vd H', Same H H' → Dp K H' vd (dD n ps) → D.nx (sg o0 o1 o2 o3 o4 (some (.int n)) o6 o7 (some vf) o9 o10 (some vd) o12 o13 o14 o15 o16) H') →
      t D (sg o0 o1 o2 o3 o4 (some (.int n)) o6 o7 (some vf) o9 o10 o11 o12 o13 o14 o15 o16) H := by
  have hu64 := hr.units
  refine ⟨_, (ps_set (i := 11) scLaw.nd rfl (.inr rfl) (pe_ifExp (pt_cmpR (op_eqD hu64) (pv 8) (pe_tup pa_nil) (nomark _)) (pe_op op_fdiv (pv 5) pe_int) (pe_tup (pa_cons (pe_op op_fdiv (pv 5) pe_int) (pa_cons (pv 8) pa_nil))))), ?_⟩
  intro D H vf n ps o0 o1 o2 o3 o4 o6 o7 o9 o10 o11 o12 o13 o14 o15 o16 hf ab q
  refine ⟨_, rfl, (by show 0 ≤ sizeLine; decide), fun t ht => ?_⟩
  have s1 := same_new (o := .tup []) ht
  refine ⟨_, _, dp_same s1 hf, .tup (SqT.of upd_same) .nil, shaped_parts ab.div, shaped_unit, _, rfl, ?_⟩
  rw [eqv_parts, div2_nil]
  by_cases hp : ps = []
  · rw [decide_eq_true hp]
    refine iteT ⟨_, rfl, _, _, rfl, rfl, ⟨by decide, by decide⟩, ?_⟩
    refine q _ _ s1 ?_
    unfold dD
    rw [if_pos hp]
    exact .int _
  · rw [decide_eq_false hp]
    refine iteF ⟨_, rfl, _, _, rfl, rfl, ⟨by decide, by decide⟩, _, rfl, (by show 2 ≤ sizeLine; decide), fun t2 ht2 => ?_⟩
    have s2 := same_new (o := .tup [.int (n / 2048), vf]) ht2
    refine q _ _ (s1.trans s2) ?_
    unfold dD
    rw [if_neg hp]
    exact .tup (SqT.of upd_same) (.cons (.int _) (.cons (dp_same (s1.trans s2) hf) .nil))
theorem it2 (hr : Room 13 (XL P w K mg base f c A outer s H0 E).A) : ∃ t, PS (XL P w K mg base f c A outer s H0 E) (ib 2) t ∧
    ∀ (D : Ends) (H : Hp) (vd : V) (n : Int) (ps : Mul) (o0 o1 o2 o3 o4 o6 o7 o8 o9 o10 o12 o13 o14 o15 o16 : Option V), Dp K H vd (dD n ps) →
      (∀ v H', Same H H' → Dp K H' v (.tuple [.int (n % 32), .int (n / 32 % 8), .int (n / 256 % 8), dD n ps]) → D.nx (sg o0 o1 o2 o3 o4 (some (.int n)) o6 o7 o8 (some v) o10 (some vd) o12 o13 o14 o15 o16) H') →
      t D (sg o0 o1 o2 o3 o4 (some (.int n)) o6 o7 o8 o9 o10 (some vd) o12 o13 o14 o15 o16) H := by
  refine ⟨_, (ps_set (i := 9) scLaw.nd rfl (.inl rfl) (pe_tup (pa_cons (pe_op op_mod (pv 5) pe_int) (pa_cons (pe_op op_mod (pe_op op_fdiv (pv 5) pe_int) pe_int) (pa_cons (pe_op op_mod (pe_op op_fdiv (pv 5) pe_int) pe_int) (pa_cons (pv 11) pa_nil)))))), ?_⟩
  intro D H vd n ps o0 o1 o2 o3 o4 o6 o7 o8 o9 o10 o12 o13 o14 o15 o16 hd q
  refine ⟨_, rfl, _, _, rfl, rfl, (by show (0 : Int) < 32; decide), _, rfl, _, _, rfl, rfl, ⟨by decide, by decide⟩, _, _, rfl, rfl, (by show (0 : Int) < 8; decide), _, rfl, _, _, rfl, rfl, ⟨by decide, by decide⟩, _, _, rfl, rfl, (by show (0 : Int) < 8; decide), _, rfl, (by show 4 ≤ sizeLine; decide), fun t ht => ?_⟩
  have s1 := same_new (o := .tup [.int (n % 32), .int (n / 32 % 8), .int (n / 256 % 8), vd]) ht
  exact q _ _ s1 (.tup (SqT.of upd_same) (.cons (.int _) (.cons (.int _) (.cons (.int _) (.cons (dp_same s1 hd) .nil)))))
theorem it3 (L : TL P w K mg base CF CS T) (hr : Room 13 (XL P w K mg base f c A outer s H0 E).A) : ∃ t, PS (XL P w K mg base f c A outer s H0 E) (ib 3) t ∧
    ∀ (D : Ends) (H : Hp) (v vu : V) (n : Int) (ps : Mul) (o0 o1 o2 o3 o4 o5 o6 o8 o10 o11 o12 o13 o14 o15 o16 : Option V), Dp K H v (sumD n ps) → Ab ps → Dp K H vu (.tuple [.int (n % 32), .int (n / 32 % 8), .int (n / 256 % 8), dD n ps]) →
      (∀ vu H', Same H H' → OptV K H' vu (fieldsD n ps) → D.nx (sg o0 o1 o2 o3 o4 o5 o6 (some v) o8 (some vu) o10 o11 o12 o13 o14 o15 o16) H') →
      t D (sg o0 o1 o2 o3 o4 o5 o6 (some v) o8 (some vu) o10 o11 o12 o13 o14 o15 o16) H := by
  refine ⟨_, (ps_if (pt_val (pe_callB (cr_any rfl) (by rfl) L.bi.any (by decide +kernel) (pa_cons (pe_lc (own := [("unknown", 15), ("many", 16)]) (g := gTup K 2 (gCons (gName 15) (gCons (gName 16) gNil))) (tt := tYes) rfl scLaw.nd (pi_tup (pe_ix ix_tup (pv 7) pe_int (fun _ _ => rfl))) (blkOk_by (N := NL) (sc := defScope sLaw) (by decide +kernel)) (fun _ _ _ _ _ => (pg_tup rfl (pgs_cons (pg_name (i := 15) scLaw.nd rfl (.inl rfl) (.inr rfl)) (pgs_cons (pg_name (i := 16) scLaw.nd rfl (.inl rfl) (.inr rfl)) pgs_nil)))) (fun _ _ _ _ _ => pts_nil) (fun _ _ _ _ _ => (pe_cmpR op_ne (pe_op op_mod (pv 16) pe_int) pe_int (nomark _)))) pa_nil))) (pss_one (ps_set (i := 9) scLaw.nd rfl (.inl rfl) pe_non)) pss_nil), ?_⟩
  intro D H v vu n ps o0 o1 o2 o3 o4 o5 o6 o8 o10 o11 o12 o13 o14 o15 o16 hv ab hvu q
  obtain ⟨a, xs, rfl, hs, ha⟩ := th_tup (.dat hv)
  obtain ⟨v1, v2, rfl, h1, h2⟩ := dps_two ha
  obtain ⟨b, ys, rfl, hb, hby⟩ := th_tup (.dat h2)
  dsimp only [tIfS]
  refine tB_goH (any_go (ps := ps) (ys := ys) (pb := b) (fun R h => ⟨_, rfl, a, _, _, _, rfl, rfl, hs, at_nat (by decide) rfl, h⟩) hb hby (Nat.le_trans ab.len (by decide)) (fun _ _ => rfl) (fun _ _ => rfl) fun H5 s5 => ⟨_, rfl, ?_⟩)
  cases e : odd2 ps with
  | true =>
    refine iteT (q _ _ s5 ?_)
    unfold fieldsD
    rw [if_pos e]
    rfl
  | false =>
    refine iteF (q _ _ s5 ?_)
    unfold fieldsD
    rw [if_neg (by rw [e]; exact Bool.noConfusion)]
    exact dp_same s5 hvu
theorem it4 (L : TL P w K mg base CF CS T) (hr : Room 13 (XL P w K mg base f c A outer s H0 E).A) : ∃ t, PS (XL P w K mg base f c A outer s H0 E) (ib 4) t ∧
    ∀ (D : Ends) (H : Hp) (v vu : V) (n : Int) (ps : Mul) (o0 o1 o2 o3 o4 o5 o6 o8 o10 o11 o12 o13 o14 o15 o16 : Option V), Dp K H v (sumD n ps) → Ab ps → Canon ps → OptV K H vu (fieldsD n ps) →
      (∀ H', Same H H' → D.nx (sg o0 o1 o2 o3 o4 o5 o6 (some v) o8 (some vu) o10 o11 o12 o13 o14 o15 o16) H') →
      t D (sg o0 o1 o2 o3 o4 o5 o6 (some v) o8 (some vu) o10 o11 o12 o13 o14 o15 o16) H := by
  have hu64 := hr.units
  have hr7 : Room 7 (XL P w K mg base f c A outer s H0 E).A := hr.mono (by decide)
  have hr1 : Room 1 (XL P w K mg base f c A outer s H0 E).A := hr.mono (by decide)
  refine ⟨_, (ps_if (PW.pt (pw_or (pt_cmpR (op_neD hu64) (pe_callH L.fields hr7 (by rfl) passL (pa_cons (pv 7) pa_nil)) (pv 9) (nomark _)) (pw_or1 (pt_cmpR (op_neD hu64) (pe_callH L.instr hr7 (by rfl) passL (pa_cons (pv 7) pa_nil)) (pe_callH L.told hr1 (by rfl) pass0 (pa_cons (pe_callH L.row hr1 (by rfl) pass0 (pa_cons (pv 7) pa_nil)) pa_nil)) (nomark _))))) (pss_one (ps_ret pe_bl)) pss_nil), ?_⟩
  intro D H v vu n ps o0 o1 o2 o3 o4 o5 o6 o8 o10 o11 o12 o13 o14 o15 o16 hv ab cn hvu q
  refine ⟨_, rfl, sp_sum ab cn hv fun v2 H2 s2 o2' => ⟨_, rfl, ne_go (optV_dp o2') (optV_dp (optV_same s2 hvu)) (shaped_fields ab n) (plain_fields ab n) ⟨_, rfl, iteF ?_⟩⟩⟩
  refine ⟨_, rfl, sp_sum ab cn (dp_same s2 hv) fun v3 H3 s3 o3' => ⟨_, rfl, v, n, ps, rfl, dp_same (s2.trans s3) hv, ab, fun v4 H4 s4 o4' => ⟨v4, n, ps, rfl, o4', ab, fun v5 H5 s5 o5' => ?_⟩⟩⟩
  exact ne_go (optV_dp (optV_same (s4.trans s5) o3')) (optV_dp o5') (shaped_instr ab n) (plain_instr ab n) ⟨_, rfl, iteF (q _ (((s2.trans s3).trans s4).trans s5))⟩
/-- one turn -/
theorem inner (L : TL P w K mg base CF CS T) (hr : Room 13 (XL P w K mg base f c A outer s H0 E).A) : ∃ t, PSs (XL P w K mg base f c A outer s H0 E) innerBody t ∧
    ∀ (D : Ends) (H : Hp) (v : V) (n : Int) (ps : Mul) (o0 o1 o2 o3 o4 o6 o8 o9 o10 o11 o12 o13 o14 o15 o16 : Option V), Dp K H v (sumD n ps) → Ab ps → Canon ps →
      (∀ H' o8 o9 o11, Same H H' → D.nx (sg o0 o1 o2 o3 o4 (some (.int n)) o6 (some v) o8 o9 o10 o11 o12 o13 o14 o15 o16) H') →
      t D (sg o0 o1 o2 o3 o4 (some (.int n)) o6 (some v) o8 o9 o10 o11 o12 o13 o14 o15 o16) H := by
  obtain ⟨t0, h0, q0⟩ := it0 L hr
  obtain ⟨t1, h1, q1⟩ := it1 hr
  obtain ⟨t2, h2, q2⟩ := it2 hr
  obtain ⟨t3, h3, q3⟩ := it3 L hr
  obtain ⟨t4, h4, q4⟩ := it4 L hr
  refine ⟨_, pss_cons h0 (pss_cons h1 (pss_cons h2 (pss_cons h3 (pss_one h4)))), ?_⟩
  intro D H v n ps o0 o1 o2 o3 o4 o6 o8 o9 o10 o11 o12 o13 o14 o15 o16 hv ab cn q
  refine q0 _ H v n ps _ _ _ _ _ _ _ _ _ _ _ _ _ _ _ _ hv ab fun vf H1 s1 hf => ?_
  refine q1 _ H1 vf n ps _ _ _ _ _ _ _ _ _ _ _ _ _ _ _ hf ab fun vd H2 s2 hd => ?_
  refine q2 _ H2 vd n ps _ _ _ _ _ _ _ _ _ _ _ _ _ _ _ hd fun vu H3 s3 hu => ?_
  have s13 := (s1.trans s2).trans s3
  refine q3 _ H3 v vu n ps _ _ _ _ _ _ _ _ _ _ _ _ _ _ _ (dp_same s13 hv) ab hu fun vu H4 s4 hu4 => ?_
  refine q4 _ H4 v vu n ps _ _ _ _ _ _ _ _ _ _ _ _ _ _ _ (dp_same (s13.trans s4) hv) ab cn hu4 fun H5 s5 => ?_
  exact q H5 _ _ _ ((s13.trans s4).trans s5)
theorem st10 (L : TL P w K mg base CF CS T) (hr : Room 13 (XL P w K mg base f c A outer s H0 E).A) : ∃ t, PS (XL P w K mg base f c A outer s H0 E) (lb 10) t ∧
    ∀ (D : Ends) (H : Hp) (n : Int) (a : Addr) (y1 y2 : V) (m1 m2 : Int) (o0 o1 o2 o3 o4 o7 o8 o9 o10 o11 o12 o13 o14 o15 o16 : Option V), H a = some (.lst [y1, y2]) → PairAt H y1 uA m1 → PairAt H y2 uB m2 →
      (∀ H' o7 o8 o9 o11, Same H H' → D.nx (sg o0 o1 o2 o3 o4 (some (.int n)) (some (.ref a)) o7 o8 o9 o10 o11 o12 o13 o14 o15 o16) H') →
      t D (sg o0 o1 o2 o3 o4 (some (.int n)) (some (.ref a)) o7 o8 o9 o10 o11 o12 o13 o14 o15 o16) H := by
  have hr2 : Room 2 (XL P w K mg base f c A outer s H0 E).A := hr.mono (by decide)
  obtain ⟨tb, hb, qb⟩ := inner L hr
  refine ⟨_, (ps_for (passes_of rfl) rfl (pi_list (pe_lst (pa_cons (pe_tup (pa_cons (pv 5) (pa_cons (pe_tup pa_nil) pa_nil))) (pa_cons (pe_callH L.total hr2 (by rfl) pass0 (pa_cons (pv 5) (pa_cons (pv 6) pa_nil))) pa_nil)))) (pg_name (i := 7) scLaw.nd rfl (.inl rfl)) hb), ?_⟩
  intro D H n a y1 y2 m1 m2 o0 o1 o2 o3 o4 o7 o8 o9 o10 o11 o12 o13 o14 o15 o16 ha hy1 hy2 q
  refine ⟨_, rfl, (by show 0 ≤ sizeLine; decide), fun u hu => ⟨(by show 2 ≤ sizeLine; decide), fun w1 hw1 => ?_⟩⟩
  have s1 := same_new (o := .tup []) hu
  have s2 := same_new (o := .tup [.int n, .ref u]) hw1
  have s12 := s1.trans s2
  refine ⟨_, rfl, _, rfl, n, m1, m2, a, y1, y2, rfl, SqL.of (s12 _ _ ha), pairAt_same s12 hy1, pairAt_same s12 hy2, fun w2 H2 s3 hw2 => ⟨(by show 2 ≤ sizeLine; decide), fun l hl => ⟨l, rfl, ⟨_, SqL.of upd_same⟩, ?_⟩⟩⟩
  have s4 := same_new (o := .lst [.ref w1, w2]) hl
  have el : (upd H2 l (.lst [.ref w1, w2])) l = some (.lst [.ref w1, w2]) := upd_same
  have hd2 := dp_same s4 hw2
  have eu := (s2.trans (s3.trans s4)) _ _ (show (upd H u (.tup [])) u = some (.tup []) from upd_same)
  have ew := (s3.trans s4) _ _ (show (upd (upd H u (.tup [])) w1 (.tup [.int n, .ref u])) w1 = some (.tup [.int n, .ref u]) from upd_same)
  have hd1 : Dp K (upd H2 l (.lst [.ref w1, w2])) (.ref w1) (sumD n []) := .tup (SqT.of ew) (.cons (.int n) (.cons (.tup (SqT.of eu) .nil) .nil))
  have sall := (s12.trans s3).trans s4
  refine for_it (walk_list (xs := [.ref w1, w2])) (fun i σ H3 => ∃ o7 o8 o9 o11, σ = sg o0 o1 o2 o3 o4 (some (.int n)) (some (.ref a)) o7 o8 o9 o10 o11 o12 o13 o14 o15 o16 ∧ Same (upd H2 l (.lst [.ref w1, w2])) H3)
    ⟨_, _, _, _, rfl, fun _ _ h => h⟩ (fun i σ H3 _ ⟨_, _, _, _, _, sm⟩ => SqL.of (sm _ _ el)) ?_ ?_
  · rintro i x σ H3 H3' hi ⟨p7, p8, p9, p11, rfl, sm⟩ ⟨rfl, hx⟩
    have hx2 : ∃ ps, Ab ps ∧ Canon ps ∧ Dp K H3' x (sumD n ps) := by
      have hi2 : i = 0 ∨ i = 1 := by
        have z : i < 2 := hi
        omega
      rcases hi2 with rfl | rfl
      · obtain rfl : V.ref w1 = x := Option.some.inj hx
        exact ⟨[], .nil, canon_nil, dp_same sm hd1⟩
      · obtain rfl : w2 = x := Option.some.inj hx
        exact ⟨_, norm_ab m1 m2, canon_norm m1 m2, dp_same sm hd2⟩
    obtain ⟨ps, ab, cn, hdx⟩ := hx2
    refine qb _ H3' x n ps _ _ _ _ _ _ _ _ _ _ _ _ _ _ _ hdx ab cn fun H' o8 o9 o11 s5 => ?_
    exact ⟨_, _, _, _, rfl, sm.trans s5⟩
  · rintro σ H3 ⟨p7, p8, p9, p11, rfl, sm⟩
    exact q H3 _ _ _ _ (sall.trans sm)
theorem st11 (L : TL P w K mg base CF CS T) (hr : Room 13 (XL P w K mg base f c A outer s H0 E).A) : ∃ t, PS (XL P w K mg base f c A outer s H0 E) (lb 11) t ∧
    ∀ (D : Ends) (H : Hp) (n : Int) (o0 o1 o2 o3 o4 o6 o7 o8 o9 o10 o11 o12 o13 o14 o15 o16 : Option V),
      (∀ H', Same H H' → D.nx (sg o0 o1 o2 o3 o4 (some (.int n)) o6 o7 o8 o9 o10 o11 o12 o13 o14 o15 o16) H') →
      t D (sg o0 o1 o2 o3 o4 (some (.int n)) o6 o7 o8 o9 o10 o11 o12 o13 o14 o15 o16) H := by
  have hu64 := hr.units
  have hr7 : Room 7 (XL P w K mg base f c A outer s H0 E).A := hr.mono (by decide)
  refine ⟨_, (ps_if (PW.pt (pw_or (pt_cmpR (op_neD hu64) (pe_callH L.fields hr7 (by rfl) passL (pa_cons (pv 5) pa_nil)) (pe_callH L.fields hr7 (by rfl) passL (pa_cons (pe_tup (pa_cons (pv 5) (pa_cons (pe_tup pa_nil) pa_nil))) pa_nil)) (nomark _)) (pw_or1 (pt_cmpR (op_neD hu64) (pe_callH L.instr hr7 (by rfl) passL (pa_cons (pv 5) pa_nil)) (pe_callH L.instr hr7 (by rfl) passL (pa_cons (pe_lst (pa_cons (pv 5) (pa_cons (pe_lst pa_nil) pa_nil))) pa_nil)) (nomark _))))) (pss_one (ps_ret pe_bl)) pss_nil), ?_⟩
  intro D H n o0 o1 o2 o3 o4 o6 o7 o8 o9 o10 o11 o12 o13 o14 o15 o16 q
  refine ⟨_, rfl, sp_int fun v2 H2 s2 o2' => ⟨_, rfl, (by show 0 ≤ sizeLine; decide), fun u hu => ⟨(by show 2 ≤ sizeLine; decide), fun t ht => ?_⟩⟩⟩
  have s3 := same_new (o := .tup []) hu
  have s4 := same_new (o := .tup [.int n, .ref u]) ht
  have eu := s4 _ _ (show (upd H2 u (.tup [])) u = some (.tup []) from upd_same)
  refine sp_sum .nil canon_nil (.tup (SqT.of upd_same) (.cons (.int n) (.cons (.tup (SqT.of eu) .nil) .nil))) fun v5 H5 s5 o5' => ?_
  refine ne_go (optV_dp (optV_same ((s3.trans s4).trans s5) o2')) (optV_dp o5') (shaped_fields .nil n) (plain_fields .nil n) ⟨_, rfl, iteF ?_⟩
  refine ⟨_, rfl, sp_int fun v6 H6 s6 o6' => ⟨_, rfl, (by show 0 ≤ sizeLine; decide), fun u2 hu2 => ⟨(by show 2 ≤ sizeLine; decide), fun t2 ht2 => ?_⟩⟩⟩
  have s7 := same_new (o := .lst []) hu2
  have s8 := same_new (o := .lst [.int n, .ref u2]) ht2
  have eu2 := s8 _ _ (show (upd H6 u2 (.lst [])) u2 = some (.lst []) from upd_same)
  refine sp_of .nil (d := .list [.int n, .list []]) (.dat (.lst (SqL.of upd_same) (.cons (.int n) (.cons (.lst (SqL.of eu2) .nil) .nil)))) ?_ (n := n) ?_ fun v9 H9 s9 o9' => ?_
  · intro n' q' ds e1 e2
    have e3 : [PyData.int n, .list []] = [.int n', q'] := Option.some.inj e1
    cases e3
    have e4 : ([] : List PyData) = ds := Option.some.inj e2
    subst e4
    exact ⟨by decide, fun p hp => by cases hp⟩
  · exact canon_nil n
  · exact ne_go (optV_dp (optV_same ((s7.trans s8).trans s9) o6')) (optV_dp o9') (shaped_instr .nil n) (plain_instr .nil n) ⟨_, rfl, iteF (q _ (((((((s2.trans s3).trans s4).trans s5).trans s6).trans s7).trans s8).trans s9))⟩
end

/-! ### two lists of pairs that hold the same thing -/
def rNePr (K : PySem.W.Frag) : R2 := fun x y H Q => ∃ a b p1 p2 p3 z v, x = .ref a ∧ y = .ref b ∧ SqL K H a [.ref p1, .ref p2] ∧ SqL K H b [.ref p3, .ref p3] ∧ SqT K H p1 [.str z, v] ∧ SqT K H p2 [.str z, v] ∧ SqT K H p3 [.str z, v] ∧ (flatB v = true ∨ ∃ c, v = .ref c) ∧ Q (.bl false) H
section
variable {X : Cx} {pins : List (Addr × Obj)} {σ : L2.St} {H : Hp} {s : Shared}
theorem eq_pair (I : Inv X pins σ H s) {A : Around} (hu : A.units < cLine) {p q : Addr} {z : Str} {v : V} (hp : SqT X.K H p [.str z, v]) (hq : SqT X.K H q [.str z, v]) (hv : flatB v = true ∨ ∃ c, v = .ref c) : SeqAt.EqAt A s (.ref p) (.ref q) true := by
  by_cases e : p = q
  · subst e
    exact SeqAt.EqAt.same _
  · obtain ⟨us, r1, t1, _⟩ := I.tuple hp
    obtain ⟨ws, r2, t2, _⟩ := I.tuple hq
    refine SeqAt.EqAt.of_refs e ?_
    cases r1 with
    | cons a1 r1 => cases r1 with
    | cons a2 r1 => cases r1 with
    | nil => cases r2 with
    | cons b1 r2 => cases r2 with
    | cons b2 r2 => cases r2 with
    | nil =>
    refine SeqAt.RcAt.tuples (e := fun _ => true) t1 t2 hu fun j h1 h2 => ?_
    match j, h1, h2 with
    | 0, _, _ => exact eqAt_same a1 b1 rfl
    | 1, _, _ =>
      rcases hv with hv | ⟨c, rfl⟩
      · exact eqAt_same a2 b2 hv
      · obtain rfl := (show _ = Value.ref c from a2)
        obtain rfl := (show _ = Value.ref c from b2)
        exact SeqAt.EqAt.same _
    | j + 2, h1, _ =>
      have z : j + 2 < 2 := h1
      omega
end
theorem op_nePr {X : Cx} (hu : X.A.units + 64 < cLine) : OpR X (compareOp .NotEq) (rNePr X.K) := by
  intro pins s σ H x y v u Q I rx ry h
  obtain ⟨a, b, p1, p2, p3, z, w, rfl, rfl, ha, hb, h1, h2, h3, hv, q⟩ := h
  cases (show v = Value.ref a from rx)
  cases (show u = Value.ref b from ry)
  obtain ⟨us, r1, t1, _⟩ := I.list ha
  obtain ⟨ws, r2, t2, _⟩ := I.list hb
  cases r1 with
  | cons a1 r1 => cases r1 with
  | cons a2 r1 => cases r1 with
  | nil => cases r2 with
  | cons b1 r2 => cases r2 with
  | cons b2 r2 => cases r2 with
  | nil =>
  obtain rfl := (show _ = Value.ref p1 from a1)
  obtain rfl := (show _ = Value.ref p2 from a2)
  obtain rfl := (show _ = Value.ref p3 from b1)
  obtain rfl := (show _ = Value.ref p3 from b2)
  have hu1 : X.A.in1.units < cLine := by
    show X.A.units + 1 < cLine
    omega
  have k := SeqAt.RcNeAt.lists (e := fun _ => true) t1.isList t2.isList rfl (show X.A.units < cLine by omega) fun j j1 j2 => by
    match j, j1, j2 with
    | 0, _, _ => exact eq_pair I hu1 h1 h3 hv
    | 1, _, _ => exact eq_pair I hu1 h2 h3 hv
    | j + 2, j1, _ =>
      have z : j + 2 < 2 := j1
      omega
  exact k X.prog X.w _ _ ⟨.bl false, H, I, rfl, q⟩

/-! ### the law: what is no sum -/
def Odd (K : PySem.W.Frag) (H : Hp) (v : V) : Prop := ∃ d, (∀ H', Kn H H' → Th K H' v d) ∧ okSum d ∧ readSum d = none ∧ (flatB v = true ∨ ∃ c, v = .ref c)
theorem Odd.kn {K : PySem.W.Frag} {H H' : Hp} {v : V} (h : Odd K H v) (e : Kn H H') : Odd K H' v := by
  obtain ⟨d, h1, h2, h3, h4⟩ := h
  exact ⟨d, fun H2 e2 => h1 H2 (e.trans e2), h2, h3, h4⟩
def inD : PyData := .tuple [.str sIn, .int 0]
def oddD : PyData := .tuple [.int 0, .tuple [.tuple [inD, .int 1]]]
theorem in_none : readUnk inD = none := by decide +kernel
theorem odd_none : readSum oddD = none := by
  have e : addPart [] (.tuple [inD, .int 1]) = none := by
    have e2 : items (.tuple [inD, .int 1]) = some [inD, .int 1] := rfl
    unfold addPart
    rw [e2]
    dsimp only
    rw [in_none]
    rfl
  show ((addPart [] (.tuple [inD, .int 1])).bind (readParts [])).map (fun kvs => ((0 : Int), form kvs)) = _
  rw [e]
  rfl
theorem odd_ok : okSum oddD := by
  intro n q ds e1 e2
  have e3 : [PyData.int 0, .tuple [.tuple [inD, .int 1]]] = [.int n, q] := Option.some.inj e1
  cases e3
  have e4 : [PyData.tuple [inD, .int 1]] = ds := Option.some.inj e2
  subst e4
  refine ⟨by show 1 ≤ 1000; decide, fun p hp => ?_⟩
  obtain rfl := List.mem_singleton.mp hp
  intro x m e
  have e5 : [inD, PyData.int 1] = [x, .int m] := Option.some.inj e
  cases e5
  refine ⟨(fun xs z => by cases z), ⟨(by show Str.length _ ≤ 1000; decide +kernel), True.intro⟩, fun u hu => ?_⟩
  rw [in_none] at hu
  cases hu
section
variable {P : Program} {w : World} {K : PySem.W.Frag} {mg : Str → Option Value} {base : Heap} {CF CS f c tb : Addr} {T : List (Addr × Str)} {A : Around} {outer : List Env} {s : Shared} {H0 : Hp} {E : XK}
theorem st12 (L : TL P w K mg base CF CS T) (hr : Room 13 (XL P w K mg base f c A outer s H0 E).A) : ∃ t, PS (XL P w K mg base f c A outer s H0 E) (lb 12) t ∧
    ∀ (D : Ends) (H : Hp) (p : Addr) (o0 o1 o3 o4 o5 o6 o7 o8 o9 o10 o11 o12 o13 o14 o15 o16 : Option V), PoolL H p 16 →
      (∀ v H', Odd K H' v → Dr p H H' → PoolL H' p 17 → D.nx (sg o0 o1 (some (.ref p)) o3 o4 o5 o6 o7 o8 o9 o10 o11 (some v) o13 o14 o15 o16) H') →
      t D (sg o0 o1 (some (.ref p)) o3 o4 o5 o6 o7 o8 o9 o10 o11 o12 o13 o14 o15 o16) H := by
  have hr2 : Room 2 (XL P w K mg base f c A outer s H0 E).A := hr.mono (by decide)
  refine ⟨_, (ps_set (i := 12) scLaw.nd rfl (.inr rfl) (pe_callH L.one hr2 (by rfl) pass0 (pa_cons (pv 2) (pa_cons (pe_lst (pa_cons pe_non (pa_cons pe_bl (pa_cons pe_str (pa_cons (pe_tup (pa_cons pe_int pa_nil)) (pa_cons pe_dnewK (pa_cons (pe_tup (pa_cons pe_int (pa_cons (pe_tup (pa_cons (pe_tup (pa_cons (pe_tup (pa_cons pe_str (pa_cons pe_int pa_nil))) (pa_cons pe_int pa_nil))) pa_nil)) pa_nil))) pa_nil))))))) pa_nil)))), ?_⟩
  intro D H p o0 o1 o3 o4 o5 o6 o7 o8 o9 o10 o11 o12 o13 o14 o15 o16 hp q
  refine draw_go (k := 16) (fun vs h => vs.length = 6 ∧ PoolL h p 16 ∧ Dr p H h ∧ ∀ v ∈ vs, Odd K h v) rfl (by decide) (fun R h => ?_) (fun vs h ⟨l, hp, _⟩ => ⟨hp, by omega, by omega⟩) fun vs h v H' ⟨_, hp, d0, ho⟩ hv d1 p1 => ?_
  · refine ⟨(by show 1 ≤ sizeLine; decide), fun t1 ht1 => ?_⟩
    intro dd hdd
    refine ⟨(by show 2 ≤ sizeLine; decide), fun ta hta => ⟨(by show 2 ≤ sizeLine; decide), fun tb htb => ⟨(by show 1 ≤ sizeLine; decide), fun tc htc => ⟨(by show 2 ≤ sizeLine; decide), fun td htd => ?_⟩⟩⟩⟩
    have s1 := same_new (o := .tup [.int 1]) ht1
    have s2 := same_new (o := .dK []) hdd
    have s3 := same_new (o := .tup [.str sIn, .int 0]) hta
    have s4 := same_new (o := .tup [.ref ta, .int 1]) htb
    have s5 := same_new (o := .tup [.ref tb]) htc
    have s6 := same_new (o := .tup [.int 0, .ref tc]) htd
    have e1 := (s2.trans (s3.trans (s4.trans (s5.trans s6)))) _ _ (show (upd H t1 (.tup [.int 1])) t1 = some (.tup [.int 1]) from upd_same)
    have e2 := (s3.trans (s4.trans (s5.trans s6))) _ _ (show (upd (upd H t1 (.tup [.int 1])) dd (.dK [])) dd = some (.dK []) from upd_same)
    have e3 := (s4.trans (s5.trans s6)) ta _ upd_same
    have e4 := (s5.trans s6) tb _ upd_same
    have e5 := s6 tc _ upd_same
    have sm := s1.trans (s2.trans (s3.trans (s4.trans (s5.trans s6))))
    refine h _ _ ⟨rfl, hp.same sm, .same sm, fun v hv => ?_⟩
    have e6 : (upd (upd (upd (upd (upd (upd H t1 (.tup [.int 1])) dd (.dK [])) ta (.tup [.str sIn, .int 0])) tb (.tup [.ref ta, .int 1])) tc (.tup [.ref tb])) td (.tup [.int 0, .ref tc])) td = some (.tup [.int 0, .ref tc]) := upd_same
    have nt : ∀ {H H' : Hp} {b : Addr} {xs : List V}, Kn H H' → H b = some (.tup xs) → H' b = some (.tup xs) := fun k e => k _ _ e (by intro x z; cases z) (by intro x z; cases z)
    simp only [List.mem_cons, List.not_mem_nil, or_false] at hv
    rcases hv with rfl | rfl | rfl | rfl | rfl | rfl
    · exact ⟨.none, fun _ _ => .dat .non, (fun _ _ _ z _ => by cases z), rfl, .inl rfl⟩
    · exact ⟨.bool true, fun _ _ => .dat (.bl true), (fun _ _ _ z _ => by cases z), rfl, .inl rfl⟩
    · exact ⟨.str "a", fun _ _ => .dat (.str _), (fun _ _ _ z _ => by cases z), rfl, .inl rfl⟩
    · exact ⟨.tuple [.int 1], fun H' k => .dat (.tup (SqT.of (nt k e1)) (.cons (.int 1) .nil)), (fun _ _ _ z _ => by cases z), rfl, .inr ⟨_, rfl⟩⟩
    · exact ⟨.dict [], fun H' k => .dct (k _ _ e2 (by intro x z; cases z) (by intro x z; cases z)), (fun _ _ _ z _ => by cases z), rfl, .inr ⟨_, rfl⟩⟩
    · exact ⟨oddD, fun H' k => .dat (.tup (SqT.of (nt k e6)) (.cons (.int 0) (.cons (.tup (SqT.of (nt k e5)) (.cons (.tup (SqT.of (nt k e4)) (.cons (.tup (SqT.of (nt k e3)) (.cons (.str _) (.cons (.int 0) .nil))) (.cons (.int 1) .nil))) .nil)) .nil))), odd_ok, odd_none, .inr ⟨_, rfl⟩⟩
  · exact q v H' ((ho v hv).kn (d1.kn hp)) (d0.trans d1) p1
theorem st13 (L : TL P w K mg base CF CS T) (TB : LamX.TabB base mg c tb) (hmT : (tb, qLaw) ∈ T) (hu : ∀ p ∈ T, p.1 = tb → p.2 = qLaw) (hr : Room 13 (XL P w K mg base f c A outer s H0 E).A) : ∃ t, PS (XL P w K mg base f c A outer s H0 E) (lb 13) t ∧
    ∀ (D : Ends) (H : Hp) (v : V) (o0 o1 o2 o3 o4 o5 o6 o7 o8 o9 o10 o11 o13 o14 o15 o16 : Option V), LamX.Tabs T H → Odd K H v →
      (∀ H', LamX.ExtN H H' → LamX.Tabs T H' → D.nx (sg o0 o1 o2 o3 o4 o5 o6 o7 o8 o9 o10 o11 (some v) o13 o14 o15 o16) H') →
      t D (sg o0 o1 o2 o3 o4 o5 o6 o7 o8 o9 o10 o11 (some v) o13 o14 o15 o16) H := by
  have hu64 := hr.units
  have hr10 : Room 10 (XL P w K mg base f c A outer s H0 E).A := hr.mono (by decide)
  refine ⟨_, (ps_if (pt_cmpR (op_nePr hu64) (pe_lst (pa_cons (pe_met (k := 7) L.met (by rfl) TB rfl hmT hu (hr.mono (by decide)) (LamX.lamS_by (show LamX.lamSB (defScope sLaw) _ = true by decide +kernel)) rfl (fun _ _ _ _ _ => rfl)
      fun A outer s H E f c' hr => pe_callH L.fields hr (by rfl) (passes_call (W := fun cls d _ H => E cls d H) (takes_of rfl rfl rfl rfl) (fun _ _ _ _ h => h)) (pa_cons (pv 12) pa_nil)) (pa_cons (pe_callH L.two hr10 (by rfl) passL (pa_cons (pv 12) pa_nil)) pa_nil)))
      (pe_op op_rep (pe_lst (pa_cons (pe_tup (pa_cons pe_str (pa_cons (pv 12) pa_nil))) pa_nil)) pe_int) (nomark _)) (pss_one (ps_ret pe_bl)) pss_nil), ?_⟩
  intro D H v o0 o1 o2 o3 o4 o5 o6 o7 o8 o9 o10 o11 o13 o14 o15 o16 hT ho q
  obtain ⟨d, hd, ok, rn, hv⟩ := ho
  refine ⟨hT, fun H1 e1 t1 => ?_⟩
  refine ⟨_, rfl, v, d, rfl, hd _ (.ext e1), ok, fun n ps e => (by rw [rn] at e; cases e), fun _ H' dx s hdx => met_sum e1 t1 s hdx fun p1 H2 e2 t2 h2 => ?_⟩
  refine ⟨_, rfl, v, d, rfl, hd _ (.ext e2), ok, rn, t2, fun p2 H3 e3 t3 h3 => ?_⟩
  have h23 : H3 p1 = some (.tup [.str "sum", v]) := e3 _ _ h2 (by intro x z; cases z)
  refine ⟨(by show 2 ≤ sizeLine; decide), fun l hl => ?_⟩
  have s4 := same_new (o := .lst [.ref p1, .ref p2]) hl
  refine ⟨_, rfl, (by show 2 ≤ sizeLine; decide), fun p3 hp3 => ⟨(by show 1 ≤ sizeLine; decide), fun l2 hl2 => ?_⟩⟩
  have s5 := same_new (o := .tup [.str "sum", v]) hp3
  have s6 := same_new (o := .lst [.ref p3]) hl2
  refine ⟨l2, 2, [.ref p3], rfl, rfl, upd_same, by decide, by decide, (by show 1 * 2 ≤ sizeLine; decide), fun l3 hl3 => ?_⟩
  have s7 := same_new (o := .lst [.ref p3, .ref p3]) hl3
  have sm := s4.trans (s5.trans (s6.trans s7))
  refine ⟨l, l3, p1, p2, p3, _, v, rfl, rfl, SqL.of ((s5.trans (s6.trans s7)) l _ upd_same), SqL.of upd_same, SqT.of (sm _ _ h23), SqT.of (sm _ _ h3), SqT.of ((s6.trans s7) p3 _ upd_same), hv, _, rfl, iteF ?_⟩
  exact q _ ((e2.trans e3).trans (LamX.ExtN.of sm)) (t3.ext sm)
end

/-! ### the law -/
theorem ext_dr {H Ha Hb : Hp} {p : Addr} (h0 : H p = none) (e : LamX.ExtN H Ha) (d : Dr p Ha Hb) : LamX.ExtN H Hb := fun b o h n => d b o (ne_of_none h h0) (e b o h n)
section
variable {P : Program} {w : World} {K : PySem.W.Frag} {mg : Str → Option Value} {base : Heap} {CF CS f c tb : Addr} {T : List (Addr × Str)} {A : Around} {outer : List Env} {s : Shared} {H0 : Hp} {E : XK}
/-- one turn -/
theorem turn (L : TL P w K mg base CF CS T) (C : CodedOk P w K mg base CF) (TB : LamX.TabB base mg c tb) (hmT : (tb, qLaw) ∈ T) (hu : ∀ p ∈ T, p.1 = tb → p.2 = qLaw) (hr : Room 13 (XL P w K mg base f c A outer s H0 E).A) : ∃ t, PSs (XL P w K mg base f c A outer s H0 E) loopBody t ∧
    ∀ (D : Ends) (H : Hp) (sc : Addr) (ns : List Int) (i : Nat) (o2 o3 o4 o5 o6 o7 o8 o9 o10 o11 o12 o13 o14 o15 o16 : Option V), SqL K H sc (ns.map V.int) → LamX.Tabs T H →
      (∀ H' o2 o3 o4 o5 o6 o7 o8 o9 o10 o11 o12 o13 o14, LamX.ExtN H H' → LamX.Tabs T H' → D.nx (sg (some (.ref sc)) (some (.int (i : Int))) o2 o3 o4 o5 o6 o7 o8 o9 o10 o11 o12 o13 o14 o15 o16) H') →
      t D (sg (some (.ref sc)) (some (.int (i : Int))) o2 o3 o4 o5 o6 o7 o8 o9 o10 o11 o12 o13 o14 o15 o16) H := by
  obtain ⟨t0, h0, q0⟩ := st0 (E := E) (A := A) (outer := outer) (s := s) (H0 := H0) (f := f) (c := c) L hr
  obtain ⟨t1, h1, q1⟩ := st1 (E := E) (A := A) (outer := outer) (s := s) (H0 := H0) (f := f) (c := c) L hr
  obtain ⟨t2, h2, q2⟩ := st2 (E := E) (A := A) (outer := outer) (s := s) (H0 := H0) (f := f) (c := c) L hr
  obtain ⟨t3, h3, q3⟩ := st3 (E := E) (A := A) (outer := outer) (s := s) (H0 := H0) (f := f) (c := c) L hr
  obtain ⟨t4, h4, q4⟩ := st4 (E := E) (A := A) (outer := outer) (s := s) (H0 := H0) (f := f) (c := c) L hr
  obtain ⟨t5, h5, q5⟩ := st5 (E := E) (A := A) (outer := outer) (s := s) (H0 := H0) (f := f) (c := c) L hr
  obtain ⟨t6, h6, q6⟩ := st6 (E := E) (A := A) (outer := outer) (s := s) (H0 := H0) (f := f) (c := c) L C TB hmT hu hr
  obtain ⟨t7, h7, q7⟩ := st7 (E := E) (A := A) (outer := outer) (s := s) (H0 := H0) (f := f) (c := c) L C hr
  obtain ⟨t8, h8, q8⟩ := st8 (E := E) (A := A) (outer := outer) (s := s) (H0 := H0) (f := f) (c := c) L hr
  obtain ⟨t9, h9, q9⟩ := st9 (E := E) (A := A) (outer := outer) (s := s) (H0 := H0) (f := f) (c := c) L hr
  obtain ⟨t10, h10, q10⟩ := st10 (E := E) (A := A) (outer := outer) (s := s) (H0 := H0) (f := f) (c := c) L hr
  obtain ⟨t11, h11, q11⟩ := st11 (E := E) (A := A) (outer := outer) (s := s) (H0 := H0) (f := f) (c := c) L hr
  obtain ⟨t12, h12, q12⟩ := st12 (E := E) (A := A) (outer := outer) (s := s) (H0 := H0) (f := f) (c := c) L hr
  obtain ⟨t13, h13, q13⟩ := st13 (E := E) (A := A) (outer := outer) (s := s) (H0 := H0) (f := f) (c := c) L TB hmT hu hr
  refine ⟨_, pss_cons h0 (pss_cons h1 (pss_cons h2 (pss_cons h3 (pss_cons h4 (pss_cons h5 (pss_cons h6 (pss_cons h7 (pss_cons h8 (pss_cons h9 (pss_cons h10 (pss_cons h11 (pss_cons h12 (pss_one h13))))))))))))), ?_⟩
  intro D H sc ns i o2 o3 o4 o5 o6 o7 o8 o9 o10 o11 o12 o13 o14 o15 o16 hs hT q
  refine q0 _ H sc ns i _ _ _ _ _ _ _ _ _ _ _ _ _ _ _ hs fun p H1 hp0 s1 p1 => ?_
  have T1 := hT.ext s1
  have x1 : LamX.ExtN H H1 := LamX.ExtN.of s1
  refine q1 _ H1 p _ _ _ _ _ _ _ _ _ _ _ _ _ _ _ _ p1 fun c x y H2 d2 p2 => ?_
  have T2 := tabs_dr p1 d2 T1
  have x2 := ext_dr hp0 x1 d2
  refine q2 _ H2 p _ _ _ _ _ _ _ _ _ _ _ _ _ _ _ _ p2 fun vd H3 i3 d3 p3 => ?_
  have T3 := tabs_dr p2 d3 T2
  have x3 := ext_dr hp0 x2 d3
  refine q3 _ H3 p (.int c) _ _ _ _ _ _ _ _ _ _ _ _ _ _ _ p3 (.inr (.inr (.inl ⟨_, rfl⟩))) fun vc H4 i4 d4 p4 => ?_
  have T4 := tabs_dr p3 d4 T3
  have x4 := ext_dr hp0 x3 d4
  refine q4 _ H4 p (.int x) (.int y) vd _ _ _ _ _ _ _ _ _ _ _ _ _ p4 (.inr (.inr (.inl ⟨_, rfl⟩))) (.inr (.inr (.inl ⟨_, rfl⟩))) i3 fun vx vy vd dy H5 ix iy id' d5 p5 => ?_
  have T5 := tabs_dr p4 d5 T4
  have x5 := ext_dr hp0 x4 d5
  obtain ⟨dc, mc⟩ := i4.im (K := K)
  obtain ⟨dx, mx⟩ := ix.im (K := K)
  obtain ⟨dd, md⟩ := id'.im (K := K)
  refine q5 _ H5 vc vx vy vd dc dx dy dd _ _ _ _ _ _ _ _ _ _ _ _ _ mc mx iy md ?_
  refine q6 _ H5 vc vx vy vd dc dx dy dd _ _ _ _ _ _ _ _ _ _ _ _ _ T5 mc mx iy md fun a H6 e6 T6 ha => ?_
  have x6 := x5.trans e6
  refine q7 _ H6 a vc vx vy vd dc dx dy dd _ _ _ _ _ _ _ _ _ _ _ mc mx (iy.ext e6) md ha fun H7 s7 => ?_
  have T7 := T6.ext s7
  have x7 := x6.trans (LamX.ExtN.of s7)
  have p7 := (p5.ext e6).same s7
  refine q8 _ H7 p _ _ _ _ _ _ _ _ _ _ _ _ _ _ _ _ p7 fun n H8 d8 p8 => ?_
  have T8 := tabs_dr p7 d8 T7
  have x8 := ext_dr hp0 x7 d8
  refine q9 _ H8 p _ _ _ _ _ _ _ _ _ _ _ _ _ _ _ _ p8 fun al y1 y2 m1 m2 H9 d9 p9 hal hy1 hy2 => ?_
  have T9 := tabs_dr p8 d9 T8
  have x9 := ext_dr hp0 x8 d9
  refine q10 _ H9 n al y1 y2 m1 m2 _ _ _ _ _ _ _ _ _ _ _ _ _ _ _ hal hy1 hy2 fun H10 _ _ _ _ s10 => ?_
  refine q11 _ H10 n _ _ _ _ _ _ _ _ _ _ _ _ _ _ _ _ fun H11 s11 => ?_
  have s1011 := s10.trans s11
  have T11 := T9.ext s1011
  have x11 := x9.trans (LamX.ExtN.of s1011)
  have p11 := p9.same s1011
  refine q12 _ H11 p _ _ _ _ _ _ _ _ _ _ _ _ _ _ _ _ p11 fun vo H12 ho d12 p12 => ?_
  have T12 := tabs_dr p11 d12 T11
  have x12 := ext_dr hp0 x11 d12
  refine q13 _ H12 vo _ _ _ _ _ _ _ _ _ _ _ _ _ _ _ _ T12 ho fun H13 e13 T13 => ?_
  exact q H13 _ _ _ _ _ _ _ _ _ _ _ _ _ (x12.trans e13) T13
end
def spLaw (K : PySem.W.Frag) (T : List (Addr × Str)) : Sp := fun vs H Q _ => ∃ (sc : Addr) (ns : List Int), vs = [.ref sc] ∧ SqL K H sc (ns.map V.int) ∧ LamX.Tabs T H ∧ ∀ H', Q (.bl true) H'
theorem ok_law {P : Program} {w : World} {K : PySem.W.Frag} {mg : Str → Option Value} {base : Heap} {CF CS f c tb : Addr} {fd : FuncData} {T : List (Addr × Str)} (F : FunC K "law" sLaw c f fd) (L : TL P w K mg base CF CS T) (C : CodedOk P w K mg base CF) (TB : LamX.TabB base mg c tb) (hmT : (tb, qLaw) ∈ T) (hu : ∀ p ∈ T, p.1 = tb → p.2 = qLaw) :
    FnOk P w K mg base (L2.CX P w) 14 f fd ["script"] (spLaw K T) := by
  refine F.okX scLaw (fun vs H Q E h => ?_) (fun A outer s H vs Q E hr h => ?_)
  · obtain ⟨sc, ns, rfl, _⟩ := h
    rfl
  · obtain ⟨sc, ns, rfl, hs, hT, q⟩ := h
    obtain ⟨t, ht, qt⟩ := turn (E := E) (A := A) (outer := outer) (s := s) (H0 := H) (f := f) (c := c) L C TB hmT hu hr
    refine ⟨_, (pss_cons (ps_for (passes_of rfl) rfl (pi_range1 (by rfl) L.bi.range (pa_cons pe_int pa_nil)) (pg_name (i := 1) scLaw.nd rfl (.inl rfl)) ht) (pss_one (ps_ret pe_bl))), ?_⟩
    refine ⟨8, rfl, by decide, by decide, ?_⟩
    refine for_range (lo := 0) (n := 8) (fun i σ H1 => ∃ o1 o2 o3 o4 o5 o6 o7 o8 o9 o10 o11 o12 o13 o14 o15 o16, σ = sg (some (.ref sc)) o1 o2 o3 o4 o5 o6 o7 o8 o9 o10 o11 o12 o13 o14 o15 o16 ∧ SqL K H1 sc (ns.map V.int) ∧ LamX.Tabs T H1)
      ⟨_, _, _, _, _, _, _, _, _, _, _, _, _, _, _, _, rfl, hs, hT⟩ ?_ ?_
    · rintro i σ H1 hi ⟨o1, o2, o3, o4, o5, o6, o7, o8, o9, o10, o11, o12, o13, o14, o15, o16, rfl, hs1, hT1⟩
      rw [Int.zero_add]
      refine qt _ H1 sc ns i _ _ _ _ _ _ _ _ _ _ _ _ _ _ _ hs1 hT1 fun H' _ _ _ _ _ _ _ _ _ _ _ _ _ e2 T2 => ?_
      exact ⟨_, _, _, _, _, _, _, _, _, _, _, _, _, _, _, _, rfl, sqL_ext e2 hs1, T2⟩
    · rintro σ H1 ⟨o1, o2, o3, o4, o5, o6, o7, o8, o9, o10, o11, o12, o13, o14, o15, o16, rfl, hs1, hT1⟩
      exact q H1

/-! ### the head: what the top leaves -/
def dd (x : Str) (i : Nat) : He.DefD := ⟨(x, none), x, x, defArgs (topS i), defBody (topS i), defScope (topS i), [], []⟩
def fns : List He.DefD := [dd "is_integer" 6, dd "is_row" 7, dd "is_row_of" 8, dd "is_name" 9, dd "read_unknown" 12, dd "order_of" 13, dd "one_form" 14, dd "read_sum" 15, dd "sum_of" 16, dd "is_up_to" 20,
  ⟨("coded", none), "coded", "coded", defArgs sCoded, defBody sCoded, defScope sCoded, [.int 0, .int 0, .int 0], []⟩, dd "fields_in" 22, dd "fields" 23, dd "instruction_in" 24, dd "instruction" 25,
  dd "_law_cell" 27, dd "_law_pool" 28, dd "_law_take" 29, dd "_law_one" 30, dd "_law_row" 31, dd "_law_key" 32, dd "_law_total" 33, dd "_law_met" 34, dd "_law_first_bad" 35, dd "_law_told" 36, dd "_law_met_two" 37, dd "law" 38,
  ⟨("BadSum", some "__init__"), "__init__", "BadSum.__init__", defArgs sIniS, defBody sIniS, defScope sIniS, [], []⟩, ⟨("BadField", some "__init__"), "__init__", "BadField.__init__", defArgs sIniF, defBody sIniF, defScope sIniF, [], []⟩]
def fas : List He.Fa := [.glo "is_integer", .glo "is_row", .glo "is_row_of", .glo "is_name", .glo "read_unknown", .glo "order_of", .glo "one_form", .glo "read_sum", .glo "sum_of", .glo "is_up_to", .glo "coded", .glo "fields_in", .glo "fields", .glo "instruction_in", .glo "instruction",
  .glo "_law_cell", .glo "_law_pool", .glo "_law_take", .glo "_law_one", .glo "_law_row", .glo "_law_key", .glo "_law_total", .glo "_law_met", .glo "_law_first_bad", .glo "_law_told", .glo "_law_met_two", .glo "law",
  .glo "RANKS", .glo "CALLED", .glo "USED", .glo "BadSum", .glo "BadField",
  .free "len", .free "int", .free "str", .free "bool", .free "list", .free "tuple", .free "isinstance", .free "any", .free "all", .free "sorted", .free "range",
  .str "LETTERS" lettersS, .exm "BadField" "BadField" true, .exm "BadSum" "BadField" false, .exm "BadSum" "BadSum" true, .noat "BadSum" "thing", .noat "BadField" "name", .meth "BadSum" "__init__", .meth "BadField" "__init__"]
def tabs : List He.Tab := [(fun K => He.ga K "RANKS", ["piece", "name", "in"])]
def tfs : List He.Defn := [("law", none), ("_law_met_two", none)]
/-- an own error class over ValueError -/
def oexB (K : PySem.W.Frag) (C : Addr) : Bool := (match K.lookup C with
  | some ⟨.type c, _, .cls z, sl⟩ => decide (c = "type") && (match z.mro, sl.toList with
    | .ref C1 :: m1, [_, _, _, _, some (.builtin b1), _] => decide (C1 = C) && (decide (b1 = "ValueError.__new__") && (!z.hasDel && (z.hasDict && PySem.HandSPX.refsVE m1)))
    | _, _ => false)
  | _ => false) && (He.eqO (PySem.W.findIn K (.ref C) "__setattr__") (some (some (.builtin "object.__setattr__"))) && (decide (PySem.W.subIn K (.ref C) (.type "BaseException") = some true) && (decide (PySem.W.typeIn K (.ref C) = some (.type "type")) && PySem.W.keepIn K (.ref C))))
def ranksL : List (Str × He.Dv) := [("piece", .int 0), ("name", .int 1), ("in", .int 2)]
def exs (K : PySem.W.Frag) : Bool := oexB K (He.ga K "BadSum") && (oexB K (He.ga K "BadField") && (xfB K (He.ga K "BadSum") && (xfB K (He.ga K "BadField") && (He.valsB K (He.ga K "RANKS") ranksL &&
  (He.tupB K "CALLED" (calledL.map He.Dv.str) && (He.tupB K "USED" (usedL.map He.Dv.str) && !decide ((He.cT K ("law", none)).2 = (He.cT K ("_law_met_two", none)).2)))))))
abbrev RR : PySem.W.OpenRow := PySem.W.OpenLaw.row PySem.Challenge.rw_loadanywhere_k02_code_words
abbrev hkk : PySem.W.Hook := He.hookX 5 fas fns tabs tfs exs
def obb (s : PySem.W.SharedT) : He.AlX := He.obsX 5 fas fns tabs tfs exs (HandSHeadRun.getT s)
theorem obb_eq (s : PySem.W.SharedT) : obb s = hkk.obs s.abs := He.obsX_eq (HandSHeadRun.getT_eq s)
abbrev loosL : List Str := (["WordError", "BadSum", "BadField", "LETTERS", "is_integer", "is_row", "is_row_of", "is_name", "RANKS", "read_unknown", "order_of", "one_form", "read_sum", "sum_of", "CALLED", "USED"] : List Str) ++ (["is_up_to", "coded", "fields_in", "fields", "instruction_in", "instruction", "_law_cell", "_law_pool", "_law_take", "_law_one", "_law_row", "_law_key", "_law_total", "_law_met", "_law_first_bad", "_law_told", "_law_met_two"] : List Str)
theorem runF (w : World) : HandSHeadRun.RunEq RR (PySem.W.view RR.prog [38]) hkk obb 4000 loosL (w.withFollow "special-get-raises" false) := by
  intro os
  kernel_rfl
theorem runT (w : World) : HandSHeadRun.RunEq RR (PySem.W.view RR.prog [38]) hkk obb 4000 loosL (w.withFollow "special-get-raises" true) := by
  intro os
  kernel_rfl
theorem runL (w : World) : HandSHeadRun.RunEq RR (PySem.W.view RR.prog [38]) hkk obb 4000 loosL w :=
  PySem.W.byRow2 "special-get-raises" (P := fun w => HandSHeadRun.RunEq RR (PySem.W.view RR.prog [38]) hkk obb 4000 loosL w) runF runT w

/-! ### the facts -/
theorem bb {a b : Bool} (h : (a && b) = true) : a = true ∧ b = true := by simpa using h
theorem oexB_ok {K : PySem.W.Frag} {C : Addr} (h : oexB K C = true) : OexC K C := by
  unfold oexB at h
  obtain ⟨h1, h⟩ := bb h
  obtain ⟨h2, h⟩ := bb h
  obtain ⟨h3, h⟩ := bb h
  obtain ⟨h4, h5⟩ := bb h
  refine ⟨?_, He.eqO_ok h2, of_decide_eq_true h3, of_decide_eq_true h4, h5⟩
  split at h1
  · rename_i cn od z sl hl
    obtain ⟨h6, h7⟩ := bb h1
    obtain rfl := of_decide_eq_true h6
    split at h7
    · rename_i C1 m1 k0 k1 k2 k3 b1 k5 hm hs
      obtain ⟨h8, h7⟩ := bb h7
      obtain ⟨h9, h7⟩ := bb h7
      obtain ⟨ha, h7⟩ := bb h7
      obtain ⟨hb, hc⟩ := bb h7
      obtain rfl := of_decide_eq_true h8
      obtain rfl := of_decide_eq_true h9
      obtain ⟨z1, z2, z3, z4, z5, z6, z7, z8, z9, za, zb⟩ := z
      dsimp only at hm ha hb
      subst hm
      have ha2 : zb = false := by simpa using ha
      subst ha2
      subst hb
      have hsl : sl = #[k0, k1, k2, k3, some (.builtin "ValueError.__new__"), k5] := by
        obtain ⟨l⟩ := sl
        simp only at hs
        rw [hs]
      rw [hsl] at hl
      exact ⟨_, _, _, _, _, _, _, _, _, _, _, _, _, _, _, hl, hc⟩
    · cases h7
  · cases h1
theorem fun_of {K : PySem.W.Frag} {x q : Str} {st : Stmt} {f : Addr} {fd : FuncData} (F : FunD K x q (defArgs st) (defBody st) (defScope st) [] [] f fd) : Fun K x q st f fd := by
  obtain ⟨oc, od, dV, kV, doc, pm, an, cdv, ct, osl, e, lk, hc, hD, hK⟩ := F.ex
  rcases hD with ⟨_, rfl⟩ | ⟨z, _⟩
  · exact ⟨⟨oc, od, kV, doc, pm, an, cdv, ct, osl, e, lk, hc⟩, F.kp⟩
  · exact absurd rfl z
theorem funC_of {K : PySem.W.Frag} {x : Str} {st : Stmt} {p : Str × Option Str} {fd : FuncData} (F : FunD K x x (defArgs st) (defBody st) (defScope st) [] [] (He.fAd K p) fd) : FunC K x st (He.cT K p).1 (He.fAd K p) fd := by
  obtain ⟨oc, od, dV, kV, doc, pm, an, cdv, ct, osl, e, lk, hc, hD, hK⟩ := F.ex
  rcases hD with ⟨_, rfl⟩ | ⟨z, _⟩
  · obtain ⟨c, rfl⟩ := He.codeIn_ref hc
    have ec : (He.cT K p).1 = c := He.codeOf_eq lk (by rw [e])
    rw [ec]
    exact ⟨⟨oc, od, kV, doc, pm, an, ct, osl, e, lk, hc⟩, F.kp⟩
  · exact absurd rfl z
theorem has_of {P : Program} {w : World} {K : PySem.W.Frag} {mg : Str → Option Value} {base : Heap} {CX : CXT} {k : Nat} {x : Str} {ps : List Str} {sp : Sp} {f : Addr} {fd : FuncData} (g : mg x = some (.ref f)) (kp : PySem.W.keepIn K (.ref f) = true) (b : Binds K fd ps []) (o : FnOk P w K mg base CX k f fd ps sp) : Has P w K mg base CX k x ps sp :=
  ⟨⟨f, fd, g, kp, b, o⟩⟩
/-! the dict RANKS -/
theorem keys_find {P : Params} {z : Str} : ∀ {l : List DictEntry} {ks : List Str}, l.map He.keyOf = He.keysIn P ks → z ∉ ks → l.find? (·.key.isStr z) = none ∧ l.any (·.refKey) = false
  | [], _, _, _ => ⟨rfl, rfl⟩
  | e :: r, [], h, _ => by cases h
  | e :: r, k :: ks, h, hz => by
    have h1 : He.keyOf e :: r.map He.keyOf = some (k, PyData.keyHash P k) :: He.keysIn P ks := h
    injection h1 with h2 h3
    obtain ⟨i1, i2⟩ := keys_find h3 (fun m => hz (List.mem_cons_of_mem _ m))
    obtain ⟨eh, ek, ev⟩ := e
    unfold He.keyOf at h2
    dsimp only at h2
    cases ek with
    | str x t =>
      have h4 : (x, eh) = (k, PyData.keyHash P k) := Option.some.inj h2
      have h5 : x = k := congrArg Prod.fst h4
      subst h5
      have nz : (x == z) = false := by
        rw [beq_eq_false_iff_ne]
        intro q
        exact hz (by rw [← q]; exact List.mem_cons_self ..)
      constructor
      · rw [List.find?_cons]
        have e1 : Value.isStr (.str x t) z = false := nz
        show (match Value.isStr (.str x t) z with | true => some _ | false => r.find? _) = none
        rw [e1]
        exact i1
      · rw [List.any_cons, i2]
        rfl
    | _ => cases h2
theorem ns_no {K : PySem.W.Frag} {w : World} {a : Addr} {ks : List Str} (h : He.dicW K a = some (He.keysIn w.params ks)) {z : Str} (hz : z ∉ ks) : PySem.W.nsIn K a z = some none := by
  unfold He.dicW at h
  cases q : K.lookup a with
  | none => rw [q] at h; cases h
  | some o =>
    obtain ⟨oc, od, dt, osl⟩ := o
    rw [q] at h
    cases oc with
    | type c =>
      cases od with
      | none =>
        cases dt with
        | dict es n =>
          have h1 : (match decide (c = "dict") && (osl.isEmpty && !(a == sysModules)) with
            | true => some (es.toList.map He.keyOf)
            | false => none) = some (He.keysIn w.params ks) := h
          split at h1
          · obtain ⟨f1, f2⟩ := keys_find (Option.some.inj h1) hz
            unfold PySem.W.nsIn
            rw [q]
            dsimp only
            rw [f1, f2]
            rfl
          · cases h1
        | _ => cases h
      | some b => cases dt <;> cases h
    | _ => cases od <;> cases dt <;> cases h
theorem rank_some {z : Str} {i : Int} (h : rank z = some i) : (z, He.Dv.int i) ∈ ranksL := by
  unfold rank at h
  split at h
  · rename_i e; cases h; rw [e]; exact List.mem_cons_self ..
  · split at h
    · rename_i e; cases h; rw [e]; exact List.mem_cons_of_mem _ (List.mem_cons_self ..)
    · split at h
      · rename_i e; cases h; rw [e]; exact List.mem_cons_of_mem _ (List.mem_cons_of_mem _ (List.mem_cons_self ..))
      · cases h
theorem rank_none {z : Str} (h : rank z = none) : z ∉ (["piece", "name", "in"] : List Str) := by
  unfold rank at h
  split at h
  · cases h
  · split at h
    · cases h
    · split at h
      · cases h
      · rename_i a b c
        intro m
        rcases List.mem_cons.mp m with m | m
        · exact a m
        · rcases List.mem_cons.mp m with m | m
          · exact b m
          · exact c (List.mem_singleton.mp m)
section
variable {w : World} {K : PySem.W.Frag} {mg : Str → Option Value} {h : Heap}
theorem ranks_of (X : K.In h) (G : h.Ns mainGlobals mg) (c : He.SaysX fas fns tabs tfs exs w h K) (v : He.valsB K (He.ga K "RANKS") ranksL = true) : Ranks K w mg (He.ga K "RANKS") := by
  have e : tabs.map (fun t => He.dicW K (t.1 K)) = tabs.map fun t => some (He.keysIn w.params t.2) := congrArg (fun z : He.AlT => z.2) c.t
  have e2 : He.dicW K (He.ga K "RANKS") = some (He.keysIn w.params ["piece", "name", "in"]) := by
    have z : [He.dicW K (He.ga K "RANKS")] = [some (He.keysIn w.params ["piece", "name", "in"])] := e
    injection z
  refine ⟨He.glo_ok X G (c.t.d.fact 27 (f := .glo "RANKS") rfl), He.dicW_ok e2, fun z i hz => ?_, fun z hz => ns_no e2 (rank_none hz)⟩
  obtain ⟨u, h1, h2⟩ := He.valsB_ok v (rank_some hz)
  obtain ⟨t, rfl⟩ := (show ∃ t, u = Value.int i t from h2)
  exact ⟨t, h1⟩
theorem bi_of (X : K.In h) (G : h.Ns mainGlobals mg) (c : He.SaysD fas fns K) : Bi mg :=
  ⟨He.free_ok X G (c.fact 32 (f := .free "len") rfl), He.free_ok X G (c.fact 33 (f := .free "int") rfl), He.free_ok X G (c.fact 34 (f := .free "str") rfl), He.free_ok X G (c.fact 35 (f := .free "bool") rfl), He.free_ok X G (c.fact 36 (f := .free "list") rfl), He.free_ok X G (c.fact 37 (f := .free "tuple") rfl),
    He.free_ok X G (c.fact 38 (f := .free "isinstance") rfl), He.free_ok X G (c.fact 39 (f := .free "any") rfl), He.free_ok X G (c.fact 40 (f := .free "all") rfl), He.free_ok X G (c.fact 41 (f := .free "sorted") rfl), He.free_ok X G (c.fact 42 (f := .free "range") rfl)⟩
end

/-! ### all promises hold -/
abbrev cL (K : PySem.W.Frag) : Addr × Addr := He.cT K ("law", none)
abbrev cM (K : PySem.W.Frag) : Addr × Addr := He.cT K ("_law_met_two", none)
abbrev TT (K : PySem.W.Frag) : List (Addr × Str) := [((cL K).2, qLaw), ((cM K).2, qMetTwo)]
theorem coded_binds {K : PySem.W.Frag} {f : Addr} {fd : FuncData} (F : FunD K "coded" "coded" (defArgs sCoded) (defBody sCoded) (defScope sCoded) [.int 0, .int 0, .int 0] [] f fd) : Binds K fd ["code", "x", "y", "d"] [] ∧
    (∃ ds, Vals [.int 0, .int 0, .int 0] ds ∧ Binds K fd ["code", "x", "y", "d"] ds) ∧ ∃ g gV, (∀ a b c, gV [a] [b, c] = [a, c, .int 0, b]) ∧ KBn K fd ["code", "x", "y", "d"] 1 ["d", "x"] g gV := by
  refine ⟨?_, ?_, ?_⟩
  · obtain ⟨ds, h1, h2⟩ := F.binds1 (ps := ["code", "x", "y", "d"]) 4 3 (by simp) rfl fun T kV doc pm an cdv ct us its e1 e2 => match us, its, e1, e2 with
      | [_, _, _, _], [_, _, _], _, _ => ⟨_, rfl, rfl⟩
    cases h1
    exact h2
  · exact F.binds1 (ps := ["code", "x", "y", "d"]) 1 0 (by simp) rfl fun T kV doc pm an cdv ct us its e1 e2 => match us, its, e1, e2 with
      | [_], [_, _, _], _, _ => ⟨_, rfl, rfl⟩
  · obtain ⟨its, h⟩ := kbinds1 (ps := ["code", "x", "y", "d"]) F 1 ["d", "x"] (fun us its ws => us ++ (ws.drop 1 ++ ((its.drop 1).take 1 ++ ws.take 1))) (by simp) (fun r1 r2 r3 => r1.append ((r3.drop 1).append (((r2.drop 1).take 1).append (r3.take 1))))
      fun T kV doc pm an cdv ct us its ws e1 e2 e3 => match us, its, ws, e1, e2, e3 with
      | [_], [_, _, _], [_, _], _, _, _ => ⟨_, rfl, rfl⟩
    exact ⟨_, _, fun _ _ _ => rfl, h⟩
theorem facts {P : Program} {w : World} {K : PySem.W.Frag} {mg : Str → Option Value} {h : Heap} (X : K.In h) (G : h.Ns mainGlobals mg) (c : He.SaysX fas fns tabs tfs exs w h K) :
    ∃ fd : FuncData, (∀ (s : Shared) (u : Value), BindsTo s fd ⟨[u], []⟩ [("script", u)]) ∧ ∀ base : Heap, K.In base → base.Ns mainGlobals mg → LamX.TabB base mg (cL K).1 (cL K).2 → LamX.TabB base mg (cM K).1 (cM K).2 →
      FnOk P w K mg base (L2.CX P w) 14 (He.ga K "law") fd ["script"] (spLaw K (TT K)) := by
  obtain ⟨x1, hx⟩ := bb c.more
  obtain ⟨x2, hx⟩ := bb hx
  obtain ⟨x3, hx⟩ := bb hx
  obtain ⟨x4, hx⟩ := bb hx
  obtain ⟨x5, hx⟩ := bb hx
  obtain ⟨x6, hx⟩ := bb hx
  obtain ⟨x7, x8⟩ := bb hx
  have nT : (cL K).2 ≠ (cM K).2 := by
    have z : decide ((cL K).2 = (cM K).2) = false := by simpa using x8
    exact of_decide_eq_false z
  have T := bi_of X G c.t.d
  have R := ranks_of X G c x5
  obtain ⟨tLet, gLet⟩ := He.str_ok X G (c.t.d.fact 43 (f := .str "LETTERS" lettersS) rfl)
  have B : Tabs K mg (He.ga K "CALLED") (He.ga K "USED") := by
    refine ⟨He.glo_ok X G (c.t.d.fact 28 (f := .glo "CALLED") rfl), He.glo_ok X G (c.t.d.fact 29 (f := .glo "USED") rfl), fun H => ?_, fun H => ?_⟩
    · have z := He.tupB_ok x6 H
      rw [List.map_map] at z
      exact z
    · have z := He.tupB_ok x7 H
      rw [List.map_map] at z
      exact z
  have gS : mg "BadSum" = some (.ref (He.ga K "BadSum")) := He.glo_ok X G (c.t.d.fact 30 (f := .glo "BadSum") rfl)
  have gF : mg "BadField" = some (.ref (He.ga K "BadField")) := He.glo_ok X G (c.t.d.fact 31 (f := .glo "BadField") rfl)
  have eFF := He.exm_ok (c.t.d.fact 44 (f := .exm "BadField" "BadField" true) rfl)
  have eSF := He.exm_ok (c.t.d.fact 45 (f := .exm "BadSum" "BadField" false) rfl)
  have eSS := He.exm_ok (c.t.d.fact 46 (f := .exm "BadSum" "BadSum" true) rfl)
  have nS := He.noat_ok (c.t.d.fact 47 (f := .noat "BadSum" "thing") rfl)
  have nF := He.noat_ok (c.t.d.fact 48 (f := .noat "BadField" "name") rfl)
  have mS := He.meth_ok (c.t.d.fact 49 (f := .meth "BadSum" "__init__") rfl)
  have mF := He.meth_ok (c.t.d.fact 50 (f := .meth "BadField" "__init__") rfl)
  have OS := oexB_ok x1
  have OF := oexB_ok x2
  have XS := xfB_ok x3
  have XF := xfB_ok x4
  obtain ⟨d0, D0⟩ := c.t.d.def_ 0 (d := dd "is_integer" 6) rfl
  have F0 : Fun K "is_integer" "is_integer" sIsInt (He.ga K "is_integer") d0 := fun_of D0
  have g0 : mg "is_integer" = some (.ref (He.ga K "is_integer")) := He.glo_ok X G (c.t.d.fact 0 (f := .glo "is_integer") rfl)
  have b0 : Binds K d0 ["thing"] [] := F0.binds fun _ _ _ _ _ _ us hl => match us, hl with | [_], _ => rfl
  obtain ⟨d1, D1⟩ := c.t.d.def_ 1 (d := dd "is_row" 7) rfl
  have F1 : Fun K "is_row" "is_row" sIsRow (He.ga K "is_row") d1 := fun_of D1
  have g1 : mg "is_row" = some (.ref (He.ga K "is_row")) := He.glo_ok X G (c.t.d.fact 1 (f := .glo "is_row") rfl)
  have b1 : Binds K d1 ["thing"] [] := F1.binds fun _ _ _ _ _ _ us hl => match us, hl with | [_], _ => rfl
  obtain ⟨d2, D2⟩ := c.t.d.def_ 2 (d := dd "is_row_of" 8) rfl
  have F2 : Fun K "is_row_of" "is_row_of" sIsRowOf (He.ga K "is_row_of") d2 := fun_of D2
  have g2 : mg "is_row_of" = some (.ref (He.ga K "is_row_of")) := He.glo_ok X G (c.t.d.fact 2 (f := .glo "is_row_of") rfl)
  have b2 : Binds K d2 ["thing", "many"] [] := F2.binds fun _ _ _ _ _ _ us hl => match us, hl with | [_, _], _ => rfl
  obtain ⟨d3, D3⟩ := c.t.d.def_ 3 (d := dd "is_name" 9) rfl
  have F3 : Fun K "is_name" "is_name" sIsName (He.ga K "is_name") d3 := fun_of D3
  have g3 : mg "is_name" = some (.ref (He.ga K "is_name")) := He.glo_ok X G (c.t.d.fact 3 (f := .glo "is_name") rfl)
  have b3 : Binds K d3 ["thing"] [] := F3.binds fun _ _ _ _ _ _ us hl => match us, hl with | [_], _ => rfl
  obtain ⟨d4, D4⟩ := c.t.d.def_ 4 (d := dd "read_unknown" 12) rfl
  have F4 : Fun K "read_unknown" "read_unknown" sReadUnk (He.ga K "read_unknown") d4 := fun_of D4
  have g4 : mg "read_unknown" = some (.ref (He.ga K "read_unknown")) := He.glo_ok X G (c.t.d.fact 4 (f := .glo "read_unknown") rfl)
  have b4 : Binds K d4 ["thing"] [] := F4.binds fun _ _ _ _ _ _ us hl => match us, hl with | [_], _ => rfl
  obtain ⟨d5, D5⟩ := c.t.d.def_ 5 (d := dd "order_of" 13) rfl
  have F5 : Fun K "order_of" "order_of" sOrderOf (He.ga K "order_of") d5 := fun_of D5
  have g5 : mg "order_of" = some (.ref (He.ga K "order_of")) := He.glo_ok X G (c.t.d.fact 5 (f := .glo "order_of") rfl)
  have b5 : Binds K d5 ["unknown"] [] := F5.binds fun _ _ _ _ _ _ us hl => match us, hl with | [_], _ => rfl
  obtain ⟨d6, D6⟩ := c.t.d.def_ 6 (d := dd "one_form" 14) rfl
  have F6 : Fun K "one_form" "one_form" sOneForm (He.ga K "one_form") d6 := fun_of D6
  have g6 : mg "one_form" = some (.ref (He.ga K "one_form")) := He.glo_ok X G (c.t.d.fact 6 (f := .glo "one_form") rfl)
  have b6 : Binds K d6 ["number", "multiples"] [] := F6.binds fun _ _ _ _ _ _ us hl => match us, hl with | [_, _], _ => rfl
  obtain ⟨d7, D7⟩ := c.t.d.def_ 7 (d := dd "read_sum" 15) rfl
  have F7 : Fun K "read_sum" "read_sum" sReadSum (He.ga K "read_sum") d7 := fun_of D7
  have g7 : mg "read_sum" = some (.ref (He.ga K "read_sum")) := He.glo_ok X G (c.t.d.fact 7 (f := .glo "read_sum") rfl)
  have b7 : Binds K d7 ["thing"] [] := F7.binds fun _ _ _ _ _ _ us hl => match us, hl with | [_], _ => rfl
  obtain ⟨d8, D8⟩ := c.t.d.def_ 8 (d := dd "sum_of" 16) rfl
  have F8 : Fun K "sum_of" "sum_of" sSumOf (He.ga K "sum_of") d8 := fun_of D8
  have g8 : mg "sum_of" = some (.ref (He.ga K "sum_of")) := He.glo_ok X G (c.t.d.fact 8 (f := .glo "sum_of") rfl)
  have b8 : Binds K d8 ["thing"] [] := F8.binds fun _ _ _ _ _ _ us hl => match us, hl with | [_], _ => rfl
  obtain ⟨d9, D9⟩ := c.t.d.def_ 9 (d := dd "is_up_to" 20) rfl
  have F9 : Fun K "is_up_to" "is_up_to" sUpTo (He.ga K "is_up_to") d9 := fun_of D9
  have g9 : mg "is_up_to" = some (.ref (He.ga K "is_up_to")) := He.glo_ok X G (c.t.d.fact 9 (f := .glo "is_up_to") rfl)
  have b9 : Binds K d9 ["thing", "most"] [] := F9.binds fun _ _ _ _ _ _ us hl => match us, hl with | [_, _], _ => rfl
  obtain ⟨d11, D11⟩ := c.t.d.def_ 11 (d := dd "fields_in" 22) rfl
  have F11 : Fun K "fields_in" "fields_in" sFieldsIn (He.ga K "fields_in") d11 := fun_of D11
  have g11 : mg "fields_in" = some (.ref (He.ga K "fields_in")) := He.glo_ok X G (c.t.d.fact 11 (f := .glo "fields_in") rfl)
  have b11 : Binds K d11 ["word"] [] := F11.binds fun _ _ _ _ _ _ us hl => match us, hl with | [_], _ => rfl
  obtain ⟨d12, D12⟩ := c.t.d.def_ 12 (d := dd "fields" 23) rfl
  have F12 : Fun K "fields" "fields" sFields (He.ga K "fields") d12 := fun_of D12
  have g12 : mg "fields" = some (.ref (He.ga K "fields")) := He.glo_ok X G (c.t.d.fact 12 (f := .glo "fields") rfl)
  have b12 : Binds K d12 ["word"] [] := F12.binds fun _ _ _ _ _ _ us hl => match us, hl with | [_], _ => rfl
  obtain ⟨d13, D13⟩ := c.t.d.def_ 13 (d := dd "instruction_in" 24) rfl
  have F13 : Fun K "instruction_in" "instruction_in" sInstrIn (He.ga K "instruction_in") d13 := fun_of D13
  have g13 : mg "instruction_in" = some (.ref (He.ga K "instruction_in")) := He.glo_ok X G (c.t.d.fact 13 (f := .glo "instruction_in") rfl)
  have b13 : Binds K d13 ["word"] [] := F13.binds fun _ _ _ _ _ _ us hl => match us, hl with | [_], _ => rfl
  obtain ⟨d14, D14⟩ := c.t.d.def_ 14 (d := dd "instruction" 25) rfl
  have F14 : Fun K "instruction" "instruction" sInstr (He.ga K "instruction") d14 := fun_of D14
  have g14 : mg "instruction" = some (.ref (He.ga K "instruction")) := He.glo_ok X G (c.t.d.fact 14 (f := .glo "instruction") rfl)
  have b14 : Binds K d14 ["word"] [] := F14.binds fun _ _ _ _ _ _ us hl => match us, hl with | [_], _ => rfl
  obtain ⟨d15, D15⟩ := c.t.d.def_ 15 (d := dd "_law_cell" 27) rfl
  have F15 : Fun K "_law_cell" "_law_cell" sCell (He.ga K "_law_cell") d15 := fun_of D15
  have g15 : mg "_law_cell" = some (.ref (He.ga K "_law_cell")) := He.glo_ok X G (c.t.d.fact 15 (f := .glo "_law_cell") rfl)
  have b15 : Binds K d15 ["script", "k"] [] := F15.binds fun _ _ _ _ _ _ us hl => match us, hl with | [_, _], _ => rfl
  obtain ⟨d16, D16⟩ := c.t.d.def_ 16 (d := dd "_law_pool" 28) rfl
  have F16 : Fun K "_law_pool" "_law_pool" sPool (He.ga K "_law_pool") d16 := fun_of D16
  have g16 : mg "_law_pool" = some (.ref (He.ga K "_law_pool")) := He.glo_ok X G (c.t.d.fact 16 (f := .glo "_law_pool") rfl)
  have b16 : Binds K d16 ["cell"] [] := F16.binds fun _ _ _ _ _ _ us hl => match us, hl with | [_], _ => rfl
  obtain ⟨d17, D17⟩ := c.t.d.def_ 17 (d := dd "_law_take" 29) rfl
  have F17 : Fun K "_law_take" "_law_take" sTake (He.ga K "_law_take") d17 := fun_of D17
  have g17 : mg "_law_take" = some (.ref (He.ga K "_law_take")) := He.glo_ok X G (c.t.d.fact 17 (f := .glo "_law_take") rfl)
  have b17 : Binds K d17 ["pool", "many"] [] := F17.binds fun _ _ _ _ _ _ us hl => match us, hl with | [_, _], _ => rfl
  obtain ⟨d18, D18⟩ := c.t.d.def_ 18 (d := dd "_law_one" 30) rfl
  have F18 : Fun K "_law_one" "_law_one" sOne (He.ga K "_law_one") d18 := fun_of D18
  have g18 : mg "_law_one" = some (.ref (He.ga K "_law_one")) := He.glo_ok X G (c.t.d.fact 18 (f := .glo "_law_one") rfl)
  have b18 : Binds K d18 ["pool", "things"] [] := F18.binds fun _ _ _ _ _ _ us hl => match us, hl with | [_, _], _ => rfl
  obtain ⟨d19, D19⟩ := c.t.d.def_ 19 (d := dd "_law_row" 31) rfl
  have F19 : Fun K "_law_row" "_law_row" sRow (He.ga K "_law_row") d19 := fun_of D19
  have g19 : mg "_law_row" = some (.ref (He.ga K "_law_row")) := He.glo_ok X G (c.t.d.fact 19 (f := .glo "_law_row") rfl)
  have b19 : Binds K d19 ["word"] [] := F19.binds fun _ _ _ _ _ _ us hl => match us, hl with | [_], _ => rfl
  obtain ⟨d20, D20⟩ := c.t.d.def_ 20 (d := dd "_law_key" 32) rfl
  have F20 : Fun K "_law_key" "_law_key" sKey (He.ga K "_law_key") d20 := fun_of D20
  have g20 : mg "_law_key" = some (.ref (He.ga K "_law_key")) := He.glo_ok X G (c.t.d.fact 20 (f := .glo "_law_key") rfl)
  have b20 : Binds K d20 ["unknown"] [] := F20.binds fun _ _ _ _ _ _ us hl => match us, hl with | [_], _ => rfl
  obtain ⟨d21, D21⟩ := c.t.d.def_ 21 (d := dd "_law_total" 33) rfl
  have F21 : Fun K "_law_total" "_law_total" sTotal (He.ga K "_law_total") d21 := fun_of D21
  have g21 : mg "_law_total" = some (.ref (He.ga K "_law_total")) := He.glo_ok X G (c.t.d.fact 21 (f := .glo "_law_total") rfl)
  have b21 : Binds K d21 ["number", "pairs"] [] := F21.binds fun _ _ _ _ _ _ us hl => match us, hl with | [_, _], _ => rfl
  obtain ⟨d22, D22⟩ := c.t.d.def_ 22 (d := dd "_law_met" 34) rfl
  have F22 : Fun K "_law_met" "_law_met" sMet (He.ga K "_law_met") d22 := fun_of D22
  have g22 : mg "_law_met" = some (.ref (He.ga K "_law_met")) := He.glo_ok X G (c.t.d.fact 22 (f := .glo "_law_met") rfl)
  have b22 : Binds K d22 ["ask"] [] := F22.binds fun _ _ _ _ _ _ us hl => match us, hl with | [_], _ => rfl
  obtain ⟨d23, D23⟩ := c.t.d.def_ 23 (d := dd "_law_first_bad" 35) rfl
  have F23 : Fun K "_law_first_bad" "_law_first_bad" sFirstBad (He.ga K "_law_first_bad") d23 := fun_of D23
  have g23 : mg "_law_first_bad" = some (.ref (He.ga K "_law_first_bad")) := He.glo_ok X G (c.t.d.fact 23 (f := .glo "_law_first_bad") rfl)
  have b23 : Binds K d23 ["code", "x", "y", "d"] [] := F23.binds fun _ _ _ _ _ _ us hl => match us, hl with | [_, _, _, _], _ => rfl
  obtain ⟨d24, D24⟩ := c.t.d.def_ 24 (d := dd "_law_told" 36) rfl
  have F24 : Fun K "_law_told" "_law_told" sTold (He.ga K "_law_told") d24 := fun_of D24
  have g24 : mg "_law_told" = some (.ref (He.ga K "_law_told")) := He.glo_ok X G (c.t.d.fact 24 (f := .glo "_law_told") rfl)
  have b24 : Binds K d24 ["found"] [] := F24.binds fun _ _ _ _ _ _ us hl => match us, hl with | [_], _ => rfl
  obtain ⟨d25, D25⟩ := c.t.d.def_ 25 (d := dd "_law_met_two" 37) rfl
  have F25 : Fun K "_law_met_two" "_law_met_two" sMetTwo (He.ga K "_law_met_two") d25 := fun_of D25
  have g25 : mg "_law_met_two" = some (.ref (He.ga K "_law_met_two")) := He.glo_ok X G (c.t.d.fact 25 (f := .glo "_law_met_two") rfl)
  have b25 : Binds K d25 ["odd"] [] := F25.binds fun _ _ _ _ _ _ us hl => match us, hl with | [_], _ => rfl
  obtain ⟨d26, D26⟩ := c.t.d.def_ 26 (d := dd "law" 38) rfl
  have F26 : Fun K "law" "law" sLaw (He.ga K "law") d26 := fun_of D26
  have g26 : mg "law" = some (.ref (He.ga K "law")) := He.glo_ok X G (c.t.d.fact 26 (f := .glo "law") rfl)
  have b26 : Binds K d26 ["script"] [] := F26.binds fun _ _ _ _ _ _ us hl => match us, hl with | [_], _ => rfl
  obtain ⟨d10, D10⟩ := c.t.d.def_ 10 (d := ⟨("coded", none), "coded", "coded", defArgs sCoded, defBody sCoded, defScope sCoded, [.int 0, .int 0, .int 0], []⟩) rfl
  have F10 : FunD K "coded" "coded" (defArgs sCoded) (defBody sCoded) (defScope sCoded) [.int 0, .int 0, .int 0] [] (He.ga K "coded") d10 := D10
  have g10 : mg "coded" = some (.ref (He.ga K "coded")) := He.glo_ok X G (c.t.d.fact 10 (f := .glo "coded") rfl)
  obtain ⟨bc1, bc2, bc3⟩ := coded_binds F10
  obtain ⟨dS, DS⟩ := c.t.d.def_ 27 (d := ⟨("BadSum", some "__init__"), "__init__", "BadSum.__init__", defArgs sIniS, defBody sIniS, defScope sIniS, [], []⟩) rfl
  obtain ⟨dF, DF⟩ := c.t.d.def_ 28 (d := ⟨("BadField", some "__init__"), "__init__", "BadField.__init__", defArgs sIniF, defBody sIniF, defScope sIniF, [], []⟩) rfl
  have FS : Fun K "__init__" "BadSum.__init__" sIniS (He.ma K (He.ga K "BadSum") "__init__") dS := fun_of DS
  have FF : Fun K "__init__" "BadField.__init__" sIniF (He.ma K (He.ga K "BadField") "__init__") dF := fun_of DF
  have bS : Binds K dS ["self", "thing"] [] := FS.binds fun _ _ _ _ _ _ us hl => match us, hl with | [_, _], _ => rfl
  have bF : Binds K dF ["self", "name"] [] := FF.binds fun _ _ _ _ _ _ us hl => match us, hl with | [_, _], _ => rfl
  have CF25 : FunC K "_law_met_two" sMetTwo (cM K).1 (He.ga K "_law_met_two") d25 := funC_of (p := ("_law_met_two", none)) D25
  have CF26 : FunC K "law" sLaw (cL K).1 (He.ga K "law") d26 := funC_of (p := ("law", none)) D26
  refine ⟨d26, fun s u => ?_, fun base Xb Gb TL1 TM1 => ?_⟩
  · exact FunD.bindsA (ps := ["script"]) D26 (fun _ _ _ _ _ _ us hl => match us, hl with | [_], _ => rfl) s [u] rfl
  have ES : Err P w K mg base "BadSum" (He.ga K "BadSum") "thing" := ⟨gS, OS, nS, XS, eSS, ⟨_, dS, "thing", mS.at_, eq_of_beq mS.fn, bS, ok_iniS FS OS nS⟩⟩
  have EF : Err P w K mg base "BadField" (He.ga K "BadField") "name" := ⟨gF, OF, nF, XF, eFF, ⟨_, dF, "name", mF.at_, eq_of_beq mF.fn, bF, ok_iniF FF OF nF⟩⟩
  have H0 := has_of (base := base) (P := P) (w := w) g0 D0.kp b0 (ok_isInt F0 T)
  have H1 := has_of (base := base) (P := P) (w := w) g1 D1.kp b1 (ok_isRow F1 T)
  have H2 := has_of (base := base) (P := P) (w := w) g2 D2.kp b2 (ok_isRowOf F2 T (H1.mono (by decide)))
  have H3 := has_of (base := base) (P := P) (w := w) g3 D3.kp b3 (ok_isName F3 T gLet)
  have H4 := has_of (base := base) (P := P) (w := w) g4 D4.kp b4 (ok_readUnk F4 T R (H2.mono (by decide)) (H0.mono (by decide)) (H3.mono (by decide)))
  have H6 := has_of (base := base) (P := P) (w := w) g6 D6.kp b6 (ok_oneForm F6 T R F5 g5)
  have H7 := has_of (base := base) (P := P) (w := w) g7 D7.kp b7 (ok_readSum F7 (H0.mono (by decide)) (H2.mono (by decide)) (H1.mono (by decide)) (H4.mono (by decide)) (H6.mono (by decide)))
  have H8 := has_of (base := base) (P := P) (w := w) g8 D8.kp b8 (ok_sumOf F8 ES (H7.mono (by decide)))
  have H9 := has_of (base := base) (P := P) (w := w) g9 D9.kp b9 (ok_upTo F9 (H0.mono (by decide)))
  have H11 := has_of (base := base) (P := P) (w := w) g11 D11.kp b11 (ok_fieldsIn F11 T)
  have H12 := has_of (base := base) (P := P) (w := w) g12 D12.kp b12 (ok_fields F12 (H8.mono (by decide)) (H11.mono (by decide)))
  have H13 := has_of (base := base) (P := P) (w := w) g13 D13.kp b13 (ok_instrIn F13 T B (H11.mono (by decide)))
  have H14 := has_of (base := base) (P := P) (w := w) g14 D14.kp b14 (ok_instr F14 (H8.mono (by decide)) (H13.mono (by decide)))
  have H15 := has_of (base := base) (P := P) (w := w) g15 D15.kp b15 (ok_cell F15 T.len)
  have H16 := has_of (base := base) (P := P) (w := w) g16 D16.kp b16 (ok_pool F16 T)
  have H17 := has_of (base := base) (P := P) (w := w) g17 D17.kp b17 (ok_take F17 T)
  have H18 := has_of (base := base) (P := P) (w := w) g18 D18.kp b18 (ok_one F18 T (H17.mono (by decide)))
  have H19 := has_of (base := base) (P := P) (w := w) g19 D19.kp b19 (ok_row F19 T)
  have H20 := has_of (base := base) (P := P) (w := w) g20 D20.kp b20 (ok_key F20)
  have H21 := has_of (base := base) (P := P) (w := w) g21 D21.kp b21 (ok_total F21 T (H20.mono (by decide)))
  have H23 := has_of (base := base) (P := P) (w := w) g23 D23.kp b23 (ok_firstBad F23 T)
  have H24 := has_of (base := base) (P := P) (w := w) g24 D24.kp b24 (ok_told F24 T)
  have CO : CodedOk P w K mg base (He.ga K "BadField") := ⟨⟨_, d10, g10, D10.kp, ok_coded F10 EF (H9.mono (by decide)) (H0.mono (by decide)), bc1, bc2, bc3⟩⟩
  have MM : Met K mg (He.ga K "BadField") (He.ga K "BadSum") := ⟨⟨_, d22, g22, F22⟩, gF, gS, eFF, eSF, eSS, XF, XS, nF, nS⟩
  have u1 : ∀ p ∈ TT K, p.1 = (cL K).2 → p.2 = qLaw := by
    intro p hp e
    rcases List.mem_cons.mp hp with rfl | hp
    · rfl
    · obtain rfl := List.mem_singleton.mp hp
      exact absurd e.symm nT
  have u2 : ∀ p ∈ TT K, p.1 = (cM K).2 → p.2 = qMetTwo := by
    intro p hp e
    rcases List.mem_cons.mp hp with rfl | hp
    · exact absurd e nT
    · obtain rfl := List.mem_singleton.mp hp
      rfl
  have H25 := has_of (base := base) (P := P) (w := w) g25 D25.kp b25 (ok_metTwo CF25 MM (H14.mono (by decide)) TM1 (List.mem_cons_of_mem _ (List.mem_cons_self ..)) u2)
  have LL : TL P w K mg base (He.ga K "BadField") (He.ga K "BadSum") (TT K) := ⟨T, H15, H16, H17, H18, H23, H21, H19, H24, H12, H14, MM, H25⟩
  exact ok_law CF26 LL CO TL1 (List.mem_cons_self ..) u1
end K2
open PySem PySem.W PySem.Calls PyProof.Rows
theorem PySem.Challenge.cw_loadanywhere_k02_code_words_holds : PySem.Challenge.rw_loadanywhere_k02_code_words.Holds := by
  w_on; o_law
  refine HandSHeadRun.head_any (r := K2.RR) (q := view K2.RR.prog [38]) (H := K2.hkk) (ob := K2.obb) (M := 4000) (loose := K2.loosL) (d := HandSHeadRun.topDef K2.RR.prog 38) (kwd := []) K2.obb_eq
    (by kernel_rfl) (fun s => by kernel_rfl) K2.runL (by kernel_rfl) (by kernel_rfl) (by kernel_rfl) (by rfl) (by first | assumption | decide +kernel) (by decide +kernel) ⟨rfl, rfl, rfl, rfl, rfl, by decide +kernel⟩ ?hw ?hc
  case hw => w_witness2
  case hc =>
    refine LamX.walk_ofTsE (l := PySem.Challenge.rw_loadanywhere_k02_code_words) (n := 63) (k := 14) (x := "script") (CX := fun w => L2.CX PySem.Challenge.rw_loadanywhere_k02_code_words.prog w) rfl (by decide) (by kernel_rfl) ⟨rfl, by decide, by decide⟩ ?F (fun _ _ _ _ _ z => by
      obtain ⟨_, _, _, _, _, _, _, _, _, _, _, _, y⟩ := z
      exact y.elim)
    intro w mg fa h Y G hmg0
    obtain ⟨K, KX, c⟩ := Y
    have hmg : mg ("law" : PySem.Str) = some (.ref fa) := by
      have e : (HandSHeadRun.topDef K2.RR.prog 38).name = ("law" : PySem.Str) := by kernel_rfl
      rw [← e]
      exact hmg0
    have g26 := He.glo_ok KX G (c.t.d.fact 26 (f := .glo "law") rfl)
    have efa := hmg.symm.trans g26
    cases efa
    obtain ⟨fd, hb, hF⟩ := K2.facts (P := PySem.Challenge.rw_loadanywhere_k02_code_words.prog) (w := w) KX G c
    refine ⟨K, KX, fd, [K2.cL K, K2.cM K], K2.spLaw K (K2.TT K), ?_, ?_, ?_, hb, ?_, ?_⟩
    · intro p hp
      rcases List.mem_cons.mp hp with rfl | hp
      · exact c.empty ("law", none) (List.mem_cons_self ..)
      · obtain rfl := List.mem_singleton.mp hp
        exact c.empty ("_law_met_two", none) (List.mem_cons_of_mem _ (List.mem_cons_self ..))
    · intro p hp
      rcases List.mem_cons.mp hp with rfl | hp
      · exact c.out ("law", none) (List.mem_cons_self ..)
      · obtain rfl := List.mem_singleton.mp hp
        exact c.out ("_law_met_two", none) (List.mem_cons_of_mem _ (List.mem_cons_self ..))
    · intro p hp
      rcases List.mem_cons.mp hp with rfl | hp
      · exact codeHd_of_K KX (c.hd ("law", none) (List.mem_cons_self ..))
      · obtain rfl := List.mem_singleton.mp hp
        exact codeHd_of_K KX (c.hd ("_law_met_two", none) (List.mem_cons_of_mem _ (List.mem_cons_self ..)))
    · intro H a ns _ _ hT hS
      refine ⟨a, ns, rfl, hS, fun p hp => ?_, fun _ => rfl⟩
      rcases List.mem_cons.mp hp with rfl | hp
      · exact LamX.TabS.nil (hT (K2.cL K) (List.mem_cons_self ..))
      · obtain rfl := List.mem_singleton.mp hp
        exact LamX.TabS.nil (hT (K2.cM K) (List.mem_cons_of_mem _ (List.mem_cons_self ..)))
    · intro base Xb Gb hT
      exact hF base Xb Gb (hT _ (List.mem_cons_self ..)) (hT _ (List.mem_cons_of_mem _ (List.mem_cons_self ..)))
