import PyProof.Rows.All
import Wide.All
import OpenK.AllK
import Wide.FinOn
import HandS.ForMost
import HandS.ForExc
import HandS.More
import HandS.Lambda
import HandS.Ends
import HandS.EndTab
import HandS.HeadWalk
import HandS.Deep
import PyProof.ReprRoads
import KE.DataEq
import KE.SortKeyHeap
import KE.SortData
import HandS.IsInst
import HandS.Walk
import HandS.Dict
import HandS.Style
import HandS.SortInts
import HandS.DictComp
import HandS.Zip
import HandS.TryOnly
import HandS.TupAny
import HandS.TupMul
import KE.GoesMore
import PySem.Challenge.RW_loadanywhere_k01_sums_told
import HandS.SortKw
import HandS.ExcInit
import HandS.ExcField
import HandS.Defaults
import HandS.Conv
import PyProof.FitsBits
import KE.IntBitsLaws
import HandS.List
import KE.KDictPairs
import KE.KDictKeyed
import KE.KDictCopyH
import KE.KeyNested
import Wide.Once
import KE.KStateDown
import Lean
import HandS.Head0
import HandS.Head1
import HandS.Head2
import HandS.HeadHook1
import HandS.HeadHook2
import HandS.HeadHook3
import HandS.HeadHook4
set_option Elab.async false
set_option linter.all false
set_option maxRecDepth 100000
set_option maxHeartbeats 0
namespace GA
open PySem PySem.Spec PyProof.Rows L2
/-! ### the law's own call, told of the very caller: so what stands guarded is known -/
/-- what is known of the heap in which the law is called -/
structure Here (K : PySem.W.Frag) (mg : Str → Option Value) (s : Shared) (cs : List (Addr × Addr)) (a : Addr) (vs : List Value) (ns : List Int) : Prop where
  kin : K.In s.heap
  glob : s.heap.Ns mainGlobals mg
  blt : ∃ mb : Str → Option Value, s.heap.Ns builtinsNs mb ∧ ∀ x : Str, x ≠ "__name__" → mb x = bootBuiltins x
  lim : s.heap.NoLimit
  gens : s.gens = #[]
  tab : ∀ p ∈ cs, s.heap.get? p.2 = some { cls := .none, data := .fields #[] }
  out : ∀ p ∈ cs, K.lookup p.2 = none
  code : ∀ p ∈ cs, PySem.W.CodeHd s.heap p.1 p.2
  bm : ∃ (b : Addr) (o : Obj), mg "__builtins__" = some (.ref b) ∧ b ≠ builtinsNs ∧ s.heap.get? b = some o ∧ o.cls = .type "module" ∧ o.dict = some builtinsNs ∧ o.data = .plain
  obj : s.heap.get? a = some { cls := .type "list", data := .seq vs.toArray }
  nums : IntsAre vs ns
  few : ns.length ≤ sizeLine
section
variable {P : Program} {w : World} {K : PySem.W.Frag} {mg : Str → Option Value} {s : Shared} {cs : List (Addr × Addr)} {a : Addr} {vs : List Value} {ns : List Int}
/-- the script's list and the tables, and nothing else, are followed -/
noncomputable def hp (K : PySem.W.Frag) (cs : List (Addr × Addr)) (a : Addr) (vs : List Value) (ns : List Int) : Hp := fun b =>
  open Classical in
  if b ∈ cs.map Prod.snd then some (.tbl #[]) else if b = a ∧ K.lookup a = none then some (.frz { cls := .type "list", data := .seq vs.toArray } (.lst (ns.map V.int))) else none
theorem hp_tab {p : Addr × Addr} (h : p ∈ cs) : hp K cs a vs ns p.2 = some (.tbl #[]) := by
  unfold hp
  exact if_pos (List.mem_map.mpr ⟨p, h, rfl⟩)
/-- what is followed -/
theorem hp_cases {b : Addr} {u : HO} (h : hp K cs a vs ns b = some u) : (∃ p ∈ cs, p.2 = b ∧ u = .tbl #[]) ∨ (b = a ∧ K.lookup a = none ∧ (∀ p ∈ cs, p.2 ≠ b) ∧ u = .frz { cls := .type "list", data := .seq vs.toArray } (.lst (ns.map V.int))) := by
  unfold hp at h
  by_cases m : b ∈ cs.map Prod.snd
  · rw [if_pos m] at h
    obtain ⟨p, hp, e⟩ := List.mem_map.mp m
    exact .inl ⟨p, hp, e, (Option.some.inj h).symm⟩
  · rw [if_neg m] at h
    by_cases q : b = a ∧ K.lookup a = none
    · rw [if_pos q] at h
      exact .inr ⟨q.1, q.2, fun p hp e => m (List.mem_map.mpr ⟨p, hp, e⟩), (Option.some.inj h).symm⟩
    · rw [if_neg q] at h
      cases h
theorem Here.apart (W : Here K mg s cs a vs ns) {p : Addr × Addr} (h : p ∈ cs) : p.2 ≠ a := fun e => by
  have t := W.tab p h
  rw [e, W.obj] at t
  exact absurd (congrArg Obj.data (Option.some.inj t)) (by simp)
theorem Here.free (W : Here K mg s cs a vs ns) {b : Addr} {o : Obj} (g : s.heap.get? b = some o) (n1 : ∀ z n, o.data ≠ .seq z n) (n2 : o.data ≠ .fields #[]) : hp K cs a vs ns b = none := by
  cases e : hp K cs a vs ns b with
  | none => rfl
  | some u =>
    rcases hp_cases e with ⟨p, hp, rfl, _⟩ | ⟨rfl, _⟩
    · rw [W.tab p hp] at g
      exact absurd (by rw [← Option.some.inj g]) n2
    · rw [W.obj] at g
      exact absurd (by rw [← Option.some.inj g]) (n1 vs.toArray _)
theorem Here.spc (W : Here K mg s cs a vs ns) {b : Addr} {m : Str → Option Value} (h : s.heap.Ns b m) : (hidT s.heap (hp K cs a vs ns)).Ns b m := by
  obtain ⟨o, es, ep, g, d, r⟩ := h
  refine ⟨o, es, ep, hidT_get g (W.free g (fun z n q => ?_) fun q => ?_), d, r⟩
  · rw [d] at q
    cases q
  · rw [d] at q
    cases q
theorem Here.base (W : Here K mg s cs a vs ns) : K.In (hidT s.heap (hp K cs a vs ns)) := fun b o e => by
  refine hidT_get (W.kin b o e) ?_
  cases q : hp K cs a vs ns b with
  | none => rfl
  | some u =>
    rcases hp_cases q with ⟨p, hp, rfl, _⟩ | ⟨rfl, k, _⟩
    · rw [W.out p hp] at e
      cases e
    · rw [k] at e
      cases e
theorem Here.tabB (W : Here K mg s cs a vs ns) {p : Addr × Addr} (h : p ∈ cs) : LamX.TabB (hidT s.heap (hp K cs a vs ns)) mg p.1 p.2 := by
  have tp := W.tab p h
  have apart : ∀ {b : Addr} {o : Obj}, s.heap.get? b = some o → (o.data ≠ .fields #[]) → b ≠ p.2 := fun g n z => by
    rw [z, tp] at g
    exact n (by rw [← Option.some.inj g])
  obtain ⟨og, eg, pg, gg, dg, rg⟩ := id W.glob
  have ng : og.data ≠ .fields #[] := fun z => by
    rw [dg] at z
    cases z
  refine ⟨?_, ?_, apart gg ng⟩
  · obtain ⟨o, us, f1, f2, f3, f4, f5, f6, f7, g, r1, r2, r3, rest⟩ := W.code p h
    refine ⟨o, us, f1, f2, f3, f4, f5, f6, f7, hidT_get g (W.free g (fun z n q => ?_) fun q => ?_), r1, r2, r3, rest⟩
    · rw [r2] at q
      cases q
    · rw [r2] at q
      cases q
      simp at r3
  · obtain ⟨b, o, b1, b2, b3, b4, b5, b6⟩ := W.bm
    have pl : o.data ≠ .fields #[] := fun z => by
      rw [b6] at z
      cases z
    refine ⟨b, o, b1, b2, fun z => ?_, apart b3 pl, hidT_get b3 (W.free b3 (fun z n q => ?_) pl), b4, b5, b6⟩
    · rw [z, gg] at b3
      rw [← Option.some.inj b3, dg] at b6
      cases b6
    · rw [b6] at q
      cases q
theorem Here.sq (W : Here K mg s cs a vs ns) : SqL K (hp K cs a vs ns) a (ns.map V.int) := by
  cases k : K.lookup a with
  | some o =>
    have g := W.kin a o k
    rw [W.obj] at g
    obtain rfl := Option.some.inj g
    exact .inr ⟨_, vs.toArray, _, k, rfl, rfl, rfl, by rw [List.size_toArray, W.nums.length]; exact W.few, by simpa using vals_ints W.nums⟩
  | none =>
    refine .inl (.inr ⟨{ cls := .type "list", data := .seq vs.toArray }, ?_⟩)
    unfold hp
    rw [if_neg, if_pos ⟨rfl, k⟩]
    intro m
    obtain ⟨p, hp, e⟩ := List.mem_map.mp m
    exact W.apart hp e
theorem Here.hok (W : Here K mg s cs a vs ns) : HOk P w (hp K cs a vs ns) s.heap := fun b u e => by
  rcases hp_cases e with ⟨p, hp, rfl, rfl⟩ | ⟨rfl, _, _, rfl⟩
  · exact W.tab p hp
  · exact ⟨W.obj, by rw [List.length_map]; exact W.few, vs, _, vals_ints W.nums, W.obj⟩
theorem Here.env (W : Here K mg s cs a vs ns) : Env0 P w K mg (hidT s.heap (hp K cs a vs ns)) callerA [] s (hp K cs a vs ns) := by
  obtain ⟨mb, b1, b2⟩ := W.blt
  obtain ⟨mc, l1, l2⟩ := W.lim
  exact ⟨rfl, ⟨W.base, W.spc W.glob, ⟨mb, W.spc b1, b2⟩, ⟨mc, W.spc l1, l2⟩⟩, fun b o g => of_hidT g, Nat.le_of_eq (hidT_size _ _), trivial, (by intro b hb; cases hb), W.hok, .of_eq W.gens⟩
/-- what a call that gives True leaves behind -/
theorem Here.after (W : Here K mg s cs a vs ns) {CX : CXT} {r : Result} {s' : Shared} (no : ∀ H e s', CX [] H s (fun _ _ _ => False) e s' → False) (h : CR CX [] P w (hp K cs a vs ns) s (fun v _ => v = .bl true) (fun _ _ _ => False) r s') : r = .ok (.ret (.bool true)) ∧ OldK s.heap s'.heap ∧ s'.os = s.os ∧ AllBare s'.gens := by
  cases r with
  | error e => exact (no _ e s' h).elim
  | ok fl =>
    cases fl with
    | ret u =>
      obtain ⟨v, H', os, bare, un, ok', rv, rfl⟩ := h
      obtain rfl : u = Value.bool true := rv
      have tabs : ∀ p ∈ cs, ∃ z : Array Value, s'.heap.get? p.2 = some { cls := .none, data := .fields z } := fun p hp => by
        obtain ⟨z, e⟩ := un.tbls p.2 #[] (hp_tab hp)
        exact ⟨_, ok' p.2 _ e⟩
      have rest : ∀ b o, (∀ p ∈ cs, p.2 ≠ b) → s.heap.get? b = some o → s'.heap.get? b = some o := fun b o n g => by
        cases q : hp K cs a vs ns b with
        | none => exact un.keep b o g q (by intro z; cases z) (by simp)
        | some u =>
          rcases hp_cases q with ⟨p, hp, e, _⟩ | ⟨rfl, k, _, rfl⟩
          · exact absurd e (n p hp)
          · have f := un.frzs b _ _ q
            obtain ⟨g2, _⟩ := ok' b _ f
            rw [g2, ← g]
            exact W.obj.symm
      refine ⟨rfl, ⟨fun b o g => ?_, fun b o g => ?_⟩, os, bare⟩
      · by_cases m : ∃ p ∈ cs, p.2 = b
        · obtain ⟨p, hp, rfl⟩ := m
          obtain ⟨z, e⟩ := tabs p hp
          rw [W.tab p hp] at g
          obtain rfl := Option.some.inj g
          refine .inr (.inl ⟨((W.code p hp).tab (W.tab p hp)).isCodeTable, rfl, #[], z, rfl, ?_⟩)
          rw [Array.empty_append]
          exact e
        · exact .inl (rest b o (fun p hp e => m ⟨p, hp, e⟩) g)
      · by_cases m : ∃ p ∈ cs, p.2 = b
        · obtain ⟨p, hp, rfl⟩ := m
          obtain ⟨z, e⟩ := tabs p hp
          exact ⟨_, e⟩
        · exact ⟨o, rest b o (fun p hp e => m ⟨p, hp, e⟩) g⟩
    | next => exact h.elim
    | brk => exact h.elim
    | cont => exact h.elim
end
/-- the law's promise at the very call -/
def LawHere (l : PySem.W.OpenLaw) (w : World) (K : PySem.W.Frag) (CX : CXT) (n : Nat) (mg : Str → Option Value) (fa : Addr) (h : Heap) : Prop :=
  ∃ cs : List (Addr × Addr), (∀ p ∈ cs, h.get? p.2 = some { cls := .none, data := .fields #[] }) ∧ (∀ p ∈ cs, K.lookup p.2 = none) ∧ (∀ p ∈ cs, PySem.W.CodeHd h p.1 p.2) ∧
    ∀ (base : Heap) (s : Shared) (H : Hp) (a : Addr) (ns : List Int), K.In base → base.Ns mainGlobals mg → (∀ p ∈ cs, LamX.TabB base mg p.1 p.2) → (∀ p ∈ cs, H p.2 = some (.tbl #[])) → SqL K H a (ns.map V.int) → ns.length ≤ n → Env0 l.prog w K mg base callerA [] s H →
      codeAny (model l.prog w) callerA (.call (.ref fa) ⟨[.ref a], []⟩) (CR CX [] l.prog w H s (fun v _ => v = .bl true) fun _ _ _ => False) s
theorem walk_here {l : PySem.W.OpenLaw} {n : Nat} {q : Program} {loose : List Str} {XP : (Str → Option Value) → Heap → Prop} {YP : World → Heap → Prop} {d : DefRec} {CX : World → CXT} (hn : l.most = some n) (hn2 : n ≤ sizeLine) (hdf : d.params.defaults = [])
    (F : ∀ (w : World) (mg : Str → Option Value) (fa : Addr) (h : Heap), YP w h → h.Ns mainGlobals mg → mg d.name = some (.ref fa) → ∃ K : PySem.W.Frag, K.In h ∧ LawHere l w K (CX w) n mg fa h)
    (no : ∀ (w : World) (H : Hp) (s : Shared) (e : Value) (s' : Shared), CX w [] H s (fun _ _ _ => False) e s' → False) :
    PySem.W.WalkO q loose XP YP l.row.toRowW d [] (fun f vs => PySem.call f vs) := by
  refine Att.attach_callB hn hdf fun w s0 s mg mb fa o pm cd doc a vs ns G Y ho hd hcd hmg hobj hints hlen hbits hg => ?_
  obtain ⟨K, kin, cs, h1, h2, h3, run⟩ := F w mg fa _ Y G.T.g hmg
  have W : Here K mg s cs a vs ns := ⟨kin, G.T.g, ⟨mb, G.T.b, G.T.builtins⟩, G.T.nolimit, hg, h1, h2, h3, G.T.bmain, hobj, hints, Nat.le_trans hlen hn2⟩
  exact codeAny_mono (run _ s _ a ns W.base (W.spc W.glob) (fun p hp => W.tabB hp) (fun p hp => hp_tab hp) W.sq hlen W.env) fun r s' h => W.after (fun H e s2 => no w H s e s2) h
end GA

namespace GA
open PySem PySem.Spec PyProof.Rows L2
/-! ### repr of data -/
def rRepr (K : PySem.W.Frag) : List V → Hp → VK → Prop := fun xs H Q => ∃ (p : Addr) (d : PyData), xs = [.ref p] ∧ Dp K H (.ref p) d ∧ d.showable = true ∧ d.hasDict = false ∧ d.depth ≤ 60 ∧ d.shown.length ≤ sizeLine ∧ Q (.str d.shown) H
theorem call_repr_dat {X : Cx} (hg : X.A.guards = some []) (hu : X.A.units + 65 < cLine) : CallR X (.builtin "repr") (rRepr X.K) := by
  intro pins s σ H xs us Q I r h
  obtain ⟨p, d, rfl, hd, sh, nd, dp, sz, q⟩ := h
  obtain ⟨u, rfl, ru⟩ : ∃ u, us = [u] ∧ RelV (.ref p) u := by
    cases r with
    | cons a b =>
      cases b
      exact ⟨_, rfl, a⟩
  obtain ⟨as, rd⟩ := Dp.reads I d _ _ hd ru
  cases ru
  exact repr_of_reads' rd sh (fun e => by rw [nd] at e; cases e) hg (by omega) (fun b o e => e) (fun h' u tk k => ⟨.str d.shown, H, I.kept (t' := tk) k, ⟨u, rfl⟩, q⟩) sz
end GA

namespace DR
open PySem PySem.Spec PyProof.Rows PySem.W PySem.SeqAt
/-! ### sorting where an earlier place decides: rows that are not all alike -/
/-- rows of data: as far as the first place that differs, the places can be compared -/
def cmpL (R : PyData → PyData → Prop) : List PyData → List PyData → Prop
  | x :: xs, y :: ys => R x y ∧ (PyData.eqv x y = true → cmpL R xs ys)
  | _, _ => True
def alikeP (x y : PyData) : Prop := alike x y = true
def R1 (x y : PyData) : Prop := alikeP x y ∨ ∃ xs ys, x = .tuple xs ∧ y = .tuple ys ∧ cmpL alikeP xs ys
def Toks (x y : PyData) : Prop := (PyData.eqv x y = true → keyToks x = keyToks y) ∧ (PyData.eqv x y = false → ∀ l m, PyProof.Rows.lexLt itemOrd (keyToks x ++ l) (keyToks y ++ m) = PyProof.Rows.lexLt itemOrd (keyToks x) (keyToks y))
def ToksL (xs ys : List PyData) : Prop := (PyData.eqvAll xs ys = true → keyToksAll xs = keyToksAll ys) ∧ (PyData.eqvAll xs ys = false → ∀ l m, PyProof.Rows.lexLt itemOrd (keyToksAll xs ++ l) (keyToksAll ys ++ m) = PyProof.Rows.lexLt itemOrd (keyToksAll xs) (keyToksAll ys))
theorem toksL {R : PyData → PyData → Prop} (h : ∀ x y, R x y → Toks x y) : ∀ xs ys, cmpL R xs ys → ToksL xs ys
  | [], [], _ => ⟨fun _ => rfl, fun e => absurd e (by simp [PyData.eqvAll])⟩
  | [], y :: ys, _ => ⟨fun e => absurd e (by simp [PyData.eqvAll]), fun _ l m => by
      simp only [keyToksAll, List.cons_append, List.nil_append]
      exact (lex_atom (by simp) _ _).trans (lex_atom (by simp) _ _).symm⟩
  | x :: xs, [], _ => ⟨fun e => absurd e (by simp [PyData.eqvAll]), fun _ l m => by
      simp only [keyToksAll, List.cons_append, List.nil_append]
      exact (lex_atom (by simp) _ _).trans (lex_atom (by simp) _ _).symm⟩
  | x :: xs, y :: ys, c => by
    obtain ⟨a1, a2⟩ := h x y c.1
    unfold ToksL
    rw [eqv_all_cons, toks_all_cons, toks_all_cons]
    cases hx : PyData.eqv x y with
    | true =>
      obtain ⟨b1, b2⟩ := toksL h xs ys (c.2 hx)
      rw [a1 hx, Bool.true_and]
      refine ⟨fun e => by rw [b1 e], fun e l m => ?_⟩
      simp only [List.cons_append, List.append_assoc]
      exact (lex_self (O := itemOrd) _ _ _).trans ((lex_pre _ _ _).trans ((b2 e l m).trans ((lex_pre _ _ _).symm.trans (lex_self (O := itemOrd) _ _ _).symm)))
    | false =>
      rw [Bool.false_and]
      refine ⟨fun e => absurd e Bool.false_ne_true, fun _ l m => ?_⟩
      simp only [List.cons_append, List.append_assoc]
      exact (lex_self (O := itemOrd) _ _ _).trans ((a2 hx _ _).trans ((a2 hx _ _).symm.trans (lex_self (O := itemOrd) _ _ _).symm))
theorem toks_alike (x y : PyData) (h : alikeP x y) : Toks x y := toks_eqv x y h
theorem toks_R1 (x y : PyData) (h : R1 x y) : Toks x y := by
  rcases h with h | ⟨xs, ys, rfl, rfl, h⟩
  · exact toks_eqv x y h
  · have t := toksL toks_alike xs ys h
    unfold Toks
    simp only [keyToks, PyData.eqv]
    exact t
section
variable {R : PyData → PyData → Prop} (hT : ∀ x y, R x y → Toks x y)
include hT
theorem lt_yes {x y : PyData} {xs ys : List PyData} (h : R x y) (e : PyData.eqv x y = true) : PyProof.Rows.lexLt itemOrd (keyToksAll (x :: xs)) (keyToksAll (y :: ys)) = PyProof.Rows.lexLt itemOrd (keyToksAll xs) (keyToksAll ys) := by
  rw [toks_all_cons, toks_all_cons, (hT x y h).1 e]
  exact (lex_self (O := itemOrd) _ _ _).trans (lex_pre _ _ _)
theorem lt_no {x y : PyData} {xs ys : List PyData} (h : R x y) (e : PyData.eqv x y = false) : PyProof.Rows.lexLt itemOrd (keyToksAll (x :: xs)) (keyToksAll (y :: ys)) = dataLt x y := by
  rw [toks_all_cons, toks_all_cons]
  exact (lex_self (O := itemOrd) _ _ _).trans ((hT x y h).2 e _ _)
theorem firstLt_cmp : ∀ (xs ys : List PyData), cmpL R xs ys →
    firstLt (pairEq xs ys) (fun j => dataLt (xs.getD j .none) (ys.getD j .none)) (decide (xs.length < ys.length)) (List.range (min xs.length ys.length)) = PyProof.Rows.lexLt itemOrd (keyToksAll xs) (keyToksAll ys)
  | [], [], _ => by simp [firstLt, keyToksAll, lex_irrefl]
  | [], y :: ys, _ => by
    rw [toks_all_cons]
    simp only [keyToksAll]
    rw [lex_diff (O := itemOrd) (by simp)]
    simp [firstLt, itemLt]
  | x :: xs, [], _ => by
    rw [toks_all_cons]
    simp only [keyToksAll]
    rw [lex_diff (O := itemOrd) (by simp)]
    simp [firstLt, itemLt]
  | x :: xs, y :: ys, h => by
    have em : min (x :: xs).length (y :: ys).length = min xs.length ys.length + 1 := by
      rw [List.length_cons, List.length_cons]
      omega
    have ed : decide ((x :: xs).length < (y :: ys).length) = decide (xs.length < ys.length) := by
      rw [List.length_cons, List.length_cons]
      exact decide_eq_decide.mpr (by omega)
    rw [em, ed, List.range_succ_eq_map]
    cases hx : PyData.eqv x y with
    | true =>
      rw [firstLt_yes (show pairEq (x :: xs) (y :: ys) 0 = true from hx), firstLt_map, lt_yes hT h.1 hx, ← firstLt_cmp xs ys (h.2 hx)]
      rfl
    | false =>
      rw [firstLt_no (show pairEq (x :: xs) (y :: ys) 0 = false from hx), lt_no hT h.1 hx]
      rfl
end
/-- the place that is reached can be compared -/
theorem cmpL_at {R : PyData → PyData → Prop} : ∀ (xs ys : List PyData) (j : Nat), cmpL R xs ys → j < xs.length → j < ys.length → (∀ i, i < j → pairEq xs ys i = true) → R (xs.getD j .none) (ys.getD j .none)
  | x :: xs, y :: ys, 0, h, _, _, _ => h.1
  | x :: xs, y :: ys, j + 1, h, h1, h2, e => cmpL_at xs ys j (h.2 (e 0 (Nat.succ_pos _))) (Nat.lt_of_succ_lt_succ h1) (Nat.lt_of_succ_lt_succ h2) fun i hi => e (i + 1) (Nat.succ_lt_succ hi)
  | [], _, _, _, h1, _, _ => absurd h1 (Nat.not_lt_zero _)
  | _ :: _, [], _, _, _, h2, _ => absurd h2 (Nat.not_lt_zero _)
end DR

namespace DR
open PySem PySem.Spec PyProof.Rows PySem.W PySem.SeqAt
open PySem.AutoSeq1 (wpAny_loadPart')
open PySem.MeetsSeq PySem.MeetsSeq2 PySem.MeetsSeq3 PySem.SeqRoads2
section
/-- tuple's own <, a place's < asked only where the ones ahead are equal -/
theorem tuple_ltL (l b : Addr) (items items2 : Array Value) (n n2 : Nat) (dd dd2 : Option Addr) (sl sl2 : Array (Option Value)) (e r : Nat → Bool) :
    Meets (Builtin.«tuple.__lt__» ⟨[.ref l, .ref b], []⟩)
      (fun A R s => s.heap.get? l = some { cls := .type "tuple", dict := dd, data := .seq items n, slots := sl } ∧ s.heap.get? b = some { cls := .type "tuple", dict := dd2, data := .seq items2 n2, slots := sl2 } ∧
        (∀ j (h1 : j < items.size) (h2 : j < items2.size), EqAt A.in1 s items[j] items2[j] (e j)) ∧ (∀ j (h1 : j < items.size) (h2 : j < items2.size), (∀ i, i < j → e i = true) → e j = false → RcLt A.in1 s items[j] items2[j] (r j)) ∧
        R (.ok (.ret (.bool (firstLt e r (decide (items.size < items2.size)) (List.range (min items.size items2.size)))))) s) :=
  .of_wp fun prog w A R s h => by
    obtain ⟨hp, g, d, tk, os⟩ := s; obtain ⟨hl, hb, he, hr, h⟩ := h
    have f2 := AutoSeq1.sub_tuple_tuple
    have hZ : (items.toList.zip items2.toList).length = min items.size items2.size := by simp
    wp_walk using wpAny_loadPart' hl, wpAny_loadPart' hb, wpAny_forIn_list _ (fun rest b s' => b.1 = none ∧ s' = ⟨hp, g, d, tk, os⟩ ∧ ∃ i, rest = (items.toList.zip items2.toList).drop i ∧ (∀ k, k < i → e k = true) ∧
      R (.ok (.ret (.bool (firstLt e r (decide (items.size < items2.size)) ((List.range (min items.size items2.size)).drop i))))) ⟨hp, g, d, tk, os⟩) _
    case turn =>
      rintro ⟨y, x⟩ rest b s' ⟨hb', rfl, i, hz, hpre, hR⟩
      have hlt : i < (items.toList.zip items2.toList).length := by
        rcases Nat.lt_or_ge i (items.toList.zip items2.toList).length with h' | h'
        · exact h'
        · rw [List.drop_of_length_le h'] at hz; cases hz
      have hm : i < min items.size items2.size := hZ ▸ hlt
      have h1 : i < items.size := Nat.lt_of_lt_of_le hm (Nat.min_le_left _ _)
      have h2 : i < items2.size := Nat.lt_of_lt_of_le hm (Nat.min_le_right _ _)
      rw [List.drop_eq_getElem_cons hlt] at hz
      injection hz with hyx hrest
      have hy : y = items[i] := by have := congrArg Prod.fst hyx; simpa using this
      have hx : x = items2[i] := by have := congrArg Prod.snd hyx; simpa using this
      subst hy hx
      have hd : (List.range (min items.size items2.size)).drop i = i :: (List.range (min items.size items2.size)).drop (i + 1) := by simp [List.drop_eq_getElem_cons, hm]
      rw [hd] at hR
      refine wpAny_bind (he i h1 h2 prog w _ _ ?_)
      cases hy : e i with
      | true =>
        rw [firstLt_yes hy] at hR
        wp_walk
        refine ⟨rfl, rfl, i + 1, hrest, fun k hk => ?_, hR⟩
        rcases Nat.lt_succ_iff_lt_or_eq.mp hk with h' | h'
        · exact hpre k h'
        · rw [h']
          exact hy
      | false =>
        rw [firstLt_no hy] at hR
        have hr' := hr i h1 h2 hpre hy prog w
        generalize richCompare CmpOp.Lt items[i] items2[i] = mm at hr' ⊢
        wp_walk
        refine hr' _ _ ?_
        wp_walk
        exact ⟨_, rfl, hR⟩
    case fin =>
      rintro ⟨b1, b2⟩ s' ⟨hb', rfl, i, hz, _, hR⟩
      simp only at hb'
      subst hb'
      have hge : min items.size items2.size ≤ i := by
        rcases Nat.lt_or_ge i (items.toList.zip items2.toList).length with h' | h'
        · rw [List.drop_eq_getElem_cons h'] at hz; cases hz
        · exact hZ ▸ h'
      rw [List.drop_of_length_le (by simpa using hge)] at hR
      wp_walk
      exact ⟨_, rfl, by simpa [Builtin.Tuple.tupleCompareSizes, firstLt] using hR⟩
    case h =>
      exact ⟨rfl, rfl, 0, rfl, fun k hk => absurd hk (Nat.not_lt_zero _), by simpa using h⟩
theorem rcLt_tuplesL {A : Around} {s : Shared} {l b : Addr} {items items2 : Array Value} {e r : Nat → Bool} (hl : s.heap.IsTuple l items) (hb : s.heap.IsTuple b items2) (hu : A.units < cLine)
    (he : ∀ j (h1 : j < items.size) (h2 : j < items2.size), EqAt A.in1 s items[j] items2[j] (e j)) (hr : ∀ j (h1 : j < items.size) (h2 : j < items2.size), (∀ i, i < j → e i = true) → e j = false → RcLt A.in1 s items[j] items2[j] (r j)) :
    RcLt A s (.ref l) (.ref b) (firstLt e r (decide (items.size < items2.size)) (List.range (min items.size items2.size))) := fun prog w E Q h => by
  obtain ⟨⟨cls, dd, data, sl⟩, ho, hc, n, hd⟩ := id hl
  obtain ⟨⟨cls2, dd2, data2, sl2⟩, ho2, hc2, n2, hd2⟩ := id hb
  simp only at hc hd hc2 hd2
  subst hc hd hc2 hd2
  exact richCompare_meets_room (op := .Lt) ⟨_, ho, rfl⟩ ⟨_, ho2, rfl⟩ F.slot_tuple_lt F.entry_tuple_lt (F.args_tuple_lt_2 _ _) (tuple_ltL l b items items2 n n2 dd dd2 sl sl2 e r)
    ⟨ho, ho2, he, hr, show Value.bool (firstLt e r (decide (items.size < items2.size)) (List.range (min items.size items2.size))) ≠ Value.notImplemented ∧ Q (.bool (firstLt e r (decide (items.size < items2.size)) (List.range (min items.size items2.size)))) s from ⟨(fun x => nomatch x), h⟩⟩ hu
end
theorem reads_at {h : Heap} : ∀ {xs : List PyData} {vs : List Value} {as : List Addr}, ReadsAll h vs xs as → ∀ (j : Nat) (h1 : j < vs.length), ∃ as', Reads h vs[j] (xs.getD j .none) as'
  | [], _, _, r, j, h1 => by
    cases r
    exact absurd h1 (Nat.not_lt_zero _)
  | x :: xs, _, _, r, j, h1 => by
    cases r with
    | cons r rs =>
      cases j with
      | zero => exact ⟨_, r⟩
      | succ j => exact reads_at rs j (Nat.lt_of_succ_lt_succ h1)
theorem depth_at : ∀ (xs : List PyData) (j : Nat), (xs.getD j .none).depth ≤ PyData.depthAll xs
  | [], j => by simp [PyData.depth]
  | x :: xs, 0 => by
    rw [PyData.depthAll]
    exact Nat.le_max_left _ _
  | x :: xs, j + 1 => by
    rw [PyData.depthAll]
    exact Nat.le_trans (depth_at xs j) (Nat.le_max_right _ _)
/-- a < b of data of one kind -/
theorem rcLt_R1 {A : Around} {s : Shared} {da db : PyData} {a b : Value} {as bs : List Addr} (ra : Reads s.heap a da as) (rb : Reads s.heap b db bs) (h : R1 da db) (la : da.plain = true) (lb : db.plain = true) (hn : da ≠ .none) (hu : A.units + min da.depth db.depth < cLine) : RcLt A s a b (dataLt da db) := by
  rcases h with h | ⟨xs, ys, rfl, rfl, h⟩
  · exact rcLt_alike da db A s a b as bs ra rb h hn hu
  · cases ra with
    | @tuple l o vs n _ as₁ h1 h2 h3 h4 =>
      cases rb with
      | @tuple l' o' vs' n' _ bs₁ k1 k2 k3 k4 =>
        have n1 : vs.size = xs.length := by simpa using SeqAt.ReadsAll.length _ _ _ h4
        have n2 : vs'.size = ys.length := by simpa using SeqAt.ReadsAll.length _ _ _ k4
        have hin : A.units + 1 + min (PyData.depthAll xs) (PyData.depthAll ys) < cLine := room_in hu
        rw [dataLt_tuple, ← firstLt_cmp toks_alike xs ys h, ← n1, ← n2]
        refine rcLt_tuplesL ⟨_, h1, h2, _, h3⟩ ⟨_, k1, k2, _, k3⟩ (room_here hu) (fun j j1 j2 => ?_) fun j j1 j2 pre hj => ?_
        · have := eqAt_plainAll xs ys A.in1 s vs.toList vs'.toList _ _ h4 k4 la lb hin j (by simpa using j1) (by simpa using j2)
          simpa using this
        · obtain ⟨as', r1⟩ := reads_at h4 j (by simpa using j1)
          obtain ⟨bs', r2⟩ := reads_at k4 j (by simpa using j2)
          have hR : alikeP (xs.getD j .none) (ys.getD j .none) := cmpL_at xs ys j h (by omega) (by omega) pre
          have d1 := depth_at xs j
          have d2 := depth_at ys j
          have := rcLt_alike (xs.getD j .none) (ys.getD j .none) A.in1 s _ _ _ _ r1 r2 hR (ne_none_of hR hj) (Nat.lt_of_le_of_lt (Nat.add_le_add_left (Nat.le_min.mpr ⟨Nat.le_trans (Nat.min_le_left _ _) d1, Nat.le_trans (Nat.min_le_right _ _) d2⟩) _) hin)
          simpa using this
theorem ne_none_R1 {x y : PyData} (h : R1 x y) (e : PyData.eqv x y = false) : x ≠ .none := by
  rcases h with h | ⟨xs, ys, rfl, rfl, h⟩
  · exact ne_none_of h e
  · exact fun z => nomatch z
section
variable {prog : Program} {w : World} {A : Around} {E : Value → Shared → Prop} {s : Shared}
theorem oneLt_R1 {f : Bool} {da db : PyData} {a b : Value} {as bs : List Addr} {Q : Bool → Shared → Prop} (hf : f = true → ∀ xs, da ≠ .tuple xs) (ra : Reads s.heap a da as) (rb : Reads s.heap b db bs) (h : R1 da db) (la : da.plain = true) (lb : db.plain = true) (hn : da ≠ .none)
    (hu : A.units + min da.depth db.depth < cLine) (hq : Q (dataLt da db) s) : wpAny (model prog w) A (oneLt' f a b) Q E s := by
  rcases id h with ha | ⟨xs, ys, rfl, rfl, hc⟩
  · exact oneLt_alike hf ra rb ha hn hu hq
  · cases f with
    | true => exact absurd rfl (hf rfl xs)
    | false =>
      rw [oneLt'_eq]
      simp only [Bool.false_eq_true, if_false]
      exact wpAny_bind (rcLt_R1 ra rb h la lb hn hu prog w E _ (wpAny_truthy_bool hq))
theorem katLex_R1 {b fin : Bool} {Q : Bool → Shared → Prop} : ∀ (xs ys : List PyData) (i : Nat) (vs ws : List Value) (as bs : List Addr), ReadsAll s.heap vs xs as → ReadsAll s.heap ws ys bs → cmpL R1 xs ys → PyData.plainAll xs = true → PyData.plainAll ys = true →
    A.units + min (PyData.depthAll xs) (PyData.depthAll ys) < cLine → (b = true → i = 0 → ∀ x r t, xs = x :: r → x ≠ .tuple t) → fin = decide (xs.length < ys.length) → Q (PyProof.Rows.lexLt itemOrd (keyToksAll xs) (keyToksAll ys)) s → KatLex prog w A b fin Q (vs.zip ws) i s
  | [], [], i, _, _, _, _, ra, rb, _, _, _, _, _, hf, hq => by
    cases ra
    cases rb
    have e : fin = false := by rw [hf]; rfl
    subst e
    rw [lex_irrefl] at hq
    exact kat_nil hq
  | [], y :: ys, i, _, _, _, _, ra, rb, _, _, _, _, _, hf, hq => by
    cases ra
    have e : fin = true := by rw [hf]; exact decide_eq_true (Nat.succ_pos _)
    subst e
    rw [toks_all_cons] at hq
    simp only [keyToksAll] at hq
    rw [lex_diff (O := itemOrd) (by simp)] at hq
    rw [List.zip_nil_left]
    exact kat_nil (by simpa [itemLt] using hq)
  | x :: xs, [], i, _, _, _, _, ra, rb, _, _, _, _, _, hf, hq => by
    cases rb
    have e : fin = false := by rw [hf]; exact decide_eq_false (Nat.not_lt_zero _)
    subst e
    rw [toks_all_cons] at hq
    simp only [keyToksAll] at hq
    rw [lex_diff (O := itemOrd) (by simp)] at hq
    rw [List.zip_nil_right]
    exact kat_nil (by simpa [itemLt] using hq)
  | x :: xs, y :: ys, i, _, _, _, _, ra, rb, h, lx, ly, hu, hb, hf, hq => by
    have lx' : x.plain = true ∧ PyData.plainAll xs = true := by simpa [PyData.plainAll] using lx
    have ly' : y.plain = true ∧ PyData.plainAll ys = true := by simpa [PyData.plainAll] using ly
    have hf' : fin = decide (xs.length < ys.length) := by
      rw [hf]
      simp only [List.length_cons, Nat.add_lt_add_iff_right]
    cases ra with
    | cons r rs =>
      cases rb with
      | cons r' rs' =>
        rw [List.zip_cons_cons]
        refine kat_cons (eqAt_plain x y A s _ _ _ _ r r' lx'.1 ly'.1 (room_head hu) prog w _ _ ?_)
        cases hx : PyData.eqv x y with
        | true =>
          rw [lt_yes toks_R1 h.1 hx] at hq
          exact kat_yes (katLex_R1 xs ys (i + 1) _ _ _ _ rs rs' (h.2 hx) lx'.2 ly'.2 (room_tail hu) (fun _ hi => absurd hi (Nat.succ_ne_zero i)) hf' hq)
        | false =>
          rw [lt_no toks_R1 h.1 hx] at hq
          refine kat_no (oneLt_R1 (fun hbi t => ?_) r r' h.1 lx'.1 ly'.1 (ne_none_R1 h.1 hx) (room_head hu) hq)
          rw [Bool.and_eq_true] at hbi
          exact hb hbi.1 (by simpa using hbi.2) x xs t rfl
end
end DR

namespace DR
open PySem PySem.Spec PySem.Calls PyProof.Rows PySem.W PySem.SeqAt
/-- rows of data that can be sorted: an earlier place may decide -/
structure Mix (ds : List PyData) (T : Value) : Prop where
  tup : ∀ d, d ∈ ds → ∃ x r, d = .tuple (x :: r) ∧ dataType x = T
  cmp : ∀ xs ys, .tuple xs ∈ ds → .tuple ys ∈ ds → cmpL R1 xs ys
  lay : ∀ d, d ∈ ds → d.plain = true
theorem mix_some {h : Heap} {ds : List PyData} {T : Value} (M : Mix ds T) {v : Value} {d : PyData} {as : List Addr} (hd : d ∈ ds) (r : Reads h v d as) : (dataKind h ds).keyOf v = some (keyToks d) := by
  have q : ∃ d, d ∈ ds ∧ ∃ as, Reads h v d as := ⟨d, hd, as, r⟩
  have e : (dataKind h ds).keyOf v = some (keyToks q.choose) := by
    show (open Classical in if q : ∃ d, d ∈ ds ∧ ∃ as, Reads h v d as then some (keyToks q.choose) else none) = _
    rw [dif_pos q]
  obtain ⟨h1, as', h2⟩ := q.choose_spec
  rw [e, SeqAt.plain_unique _ _ _ _ _ (M.lay _ h1) h2 r]
theorem mix_keys {h : Heap} {ds : List PyData} {T : Value} (M : Mix ds T) {vs : List Value} (e : EachIs (fun v d => ∃ as, Reads h v d as) vs ds) : EachIs (fun v d => (dataKind h ds).keyOf v = some (keyToks d)) vs ds :=
  (each_mem e).mono fun _ _ ⟨⟨_, r⟩, hd⟩ => mix_some M hd r
section
variable {prog : Program} {w : World} {A : Around} {s : Shared}
theorem sorts_mix {vs : List Value} {ds : List PyData} {T : Value} (e : EachIs (fun v d => ∃ as, Reads s.heap v d as) vs ds) (M : Mix ds T) (hT : (T == T) = true) (hu : ∀ d, d ∈ ds → A.units + d.depth < cLine) : SortsAt prog w A s (dataKind s.heap ds) vs := by
  refine ⟨fun v hv => ?_, tuples' (T != Value.type "tuple"), ?_, fun h2 E Q hq => ?_⟩
  · obtain ⟨d, hd, as, r⟩ := e.left v hv
    exact ⟨_, mix_some M hd r⟩
  · intro E x y a b Q ha hb hq
    obtain ⟨d, as, hd, ra, rfl⟩ := dataKind_inv ha
    obtain ⟨d', as', hd', rb, rfl⟩ := dataKind_inv hb
    have hroom : A.units + min d.depth d'.depth < cLine := Nat.lt_of_le_of_lt (Nat.add_le_add_left (Nat.min_le_left _ _) _) (hu d hd)
    obtain ⟨x1, r1, rfl, t1⟩ := M.tup d hd
    obtain ⟨x2, r2, rfl, t2⟩ := M.tup d' hd'
    have hq' : Q (dataLt (.tuple (x1 :: r1)) (.tuple (x2 :: r2))) s := hq
    rw [dataLt_tuple] at hq'
    cases ra with
    | @tuple l o xs n _ _ h1 h2 h3 h4 =>
      cases rb with
      | @tuple l' o' xs' n' _ _ k1 k2 k3 k4 =>
        have n1 : xs.size = (x1 :: r1).length := by simpa using SeqAt.ReadsAll.length _ _ _ h4
        have n2 : xs'.size = (x2 :: r2).length := by simpa using SeqAt.ReadsAll.length _ _ _ k4
        refine kat_lt h1 h3 k1 k3 (katLex_R1 (x1 :: r1) (x2 :: r2) 0 _ _ _ _ h4 k4 (M.cmp _ _ hd hd') (M.lay _ hd) (M.lay _ hd') (by have q := SeqAt.room_in hroom; omega) (fun hb _ x r t ex => ?_) (by rw [n1, n2]) hq')
        obtain ⟨rfl, rfl⟩ := List.cons.inj ex
        rw [← t1] at hb
        exact dataType_tuple hb t
  · obtain ⟨fs, t1, t2, t3⟩ := each_katTups e fun d hd => by
      obtain ⟨x, r, z, _⟩ := M.tup d hd
      exact ⟨x, r, z⟩
    refine kat_kind (T := T) t1 (by omega) (fun f hf => ?_) hT hq
    obtain ⟨x, r, as, m1, m2⟩ := t3 f hf
    obtain ⟨x', r', z, t⟩ := M.tup _ m1
    obtain ⟨rfl, rfl⟩ := List.cons.inj (PyData.tuple.inj z)
    rw [← t]
    exact looks_reads m2
end
section
variable {prog : Program} {w : World} {A : Around} {E : Value → Shared → Prop} {s : Shared} {β : Type} {vs : List Value} {bs : List β} {enc : β → PyData} {R : Value → β → Prop}
/-- sorted(xs) of such rows -/
theorem sorted_mix {l : Addr} {Q : Value → Shared → Prop} {T : Value} (hl : s.heap.IsList l vs.toArray) (e : EachIs R vs bs) (er : EachIs (fun v b => ∃ as, Reads s.heap v (enc b) as) vs bs) (M : Mix (bs.map enc) T) (hT : (T == T) = true) (hL : bs.length ≤ sizeLine)
    (hu : ∀ b, b ∈ bs → A.units + 2 + (enc b).depth < cLine) (h : ∀ out, out.length = bs.length → EachIs R out (bs.mergeSort (dataLe false enc)) → Q (.ref (s.heap.objs.size + 1)) { s with heap := sortedAll s.heap vs (List.toArray out) }) :
    wpAny (model prog w) A (call (.builtin "sorted") [.ref l]) Q E s := by
  have er' : EachIs (fun v b => ∃ as, Reads (sortingHeap (copyHeap s.heap vs) (s.heap.objs.size + 1) vs) v (enc b) as) vs bs := er.mono fun _ _ ⟨as, r⟩ => ⟨as, PyProof.Rows.Reads.keeps (fun _ _ => sorting_copy_old) r⟩
  have em := each_map (R := fun v d => ∃ as, Reads (sortingHeap (copyHeap s.heap vs) (s.heap.objs.size + 1) vs) v d as) enc er'
  exact sorted_vals hl (sorts_mix (s := { s with heap := sortingHeap (copyHeap s.heap vs) (s.heap.objs.size + 1) vs }) em M hT (bound_map hu)) (by rw [e.length]; exact hL)
    (h _ (by rw [sortVals_length false rfl]; exact e.length) (sortVals_each (κ := dataKind (sortingHeap (copyHeap s.heap vs) (s.heap.objs.size + 1) vs) (bs.map enc)) (fun b => keyToks (enc b)) e (each_of_map enc (mix_keys M em))))
end
section
variable {prog : Program} {w : World} {A : Around} {E : Value → Shared → Prop} {s : Shared} {a kS : Addr} {b : Bool} {vs : List Value} {keys : Array Value} {e e1 : Nat} {P : PySem.Fin → Shared → Prop} {kz : List PyData}
/-- what key= leaves -/
def MixOut (kz : List PyData) (vs out : List Value) : Prop := ∃ h ks, out = sortVals (dataKind h kz) false ks vs ∧ EachIs (fun v k => ∃ as, Reads h v k as) ks kz
theorem mix_rest {f : Value} {h₁ : Heap} {T : Value} (kp : KeepsBut a h₁ s.heap) (hkS : h₁.get? kS = none) (nk : s.heap.get? kS = some (seqObj "list" #[] 0)) (na : s.heap.get? a = some (seqObj "list" #[] e1)) (hka : kS ≠ a)
    (hlen : kz.length = vs.length) (hZ : vs.length ≤ sizeLine) (hal : ∀ d, d ∈ kz → alike d d = true) (M : Mix kz T) (hT : (T == T) = true) (hu : ∀ d, d ∈ kz → A.units + d.depth < cLine)
    (turn : ∀ (i : Nat) (v : Value) (k : PyData), vs[i]? = some v → kz[i]? = some k → ∀ (h : Heap) (tk : Nat), KeepsBut a h₁ h →
      wpAny (model prog w) A (call f [v]) (KeyPure k { s with heap := h, toks := tk }) (fun _ _ => False) { s with heap := h, toks := tk })
    (h : ∀ h' tk out c, KeepsBut a h₁ h' → h'.get? a = some (seqObj "list" (List.toArray out) c) → MixOut kz vs out → P (.done (.ret .none)) { s with heap := h', toks := tk }) :
    wpAny (model prog w) A (ksk_rest a f false vs.toArray e1 (.ref kS)) P E s := by
  unfold ksk_rest
  refine wpAny_bind (wpAny_rule ?_)
  first
    | rw [List.forIn_toArray]
    | (rw [← Array.forIn_toList]; simp only [List.toList_toArray])
    | rw [← Array.forIn_toList]
  refine wpAny_bind (ksk_fold (fun i s' => ∃ h' tk kA e, s' = { s with heap := h', toks := tk } ∧ KeepsBut a h₁ h' ∧ h'.get? kS = some (seqObj "list" kA e) ∧ h'.get? a = some (seqObj "list" #[] e1) ∧ EachIs (fun v k => Reads h' v k [] ∧ alike k k = true) kA.toList (kz.take i)) vs 0 s
    ⟨s.heap, s.toks, #[], 0, rfl, kp, nk, na, by rw [List.take_zero]; exact EachIs.nil⟩ ?step ?done)
  case step =>
    rintro j x s' hx ⟨h', tk, kA, e, rfl, kp', nk', na', hk⟩
    simp only [Nat.zero_add] at hk ⊢
    have hj : j < vs.length := (List.getElem?_eq_some_iff.mp hx).1
    obtain ⟨k, hkj⟩ : ∃ k, kz[j]? = some k := ⟨_, List.getElem?_eq_getElem (by omega)⟩
    have hkk : alike k k = true := hal k (List.mem_of_getElem? hkj)
    have hz : kA.size ≤ vs.length := by
      have h1 := hk.length
      rw [Array.length_toList, List.length_take] at h1
      omega
    refine wpAny_bind (wpAny_attempt (wpAny_mono (turn j x k hx hkj h' tk kp') (fun v s'' he => ?_) fun _ _ hF => hF.elim))
    obtain ⟨g, tk2, rfl, hg, hr⟩ := he
    try dsimp only
    have nk2 : g.get? kS = some (seqObj "list" kA e) := hg _ _ nk'
    have na2 : g.get? a = some (seqObj "list" #[] e1) := hg _ _ na'
    have s1 := Heap.SameBut.update g kS (Obj.mapSeq (·.push v))
    obtain ⟨c2, hc2⟩ : ∃ c2, (g.update kS (Obj.mapSeq (·.push v))).get? kS = some (seqObj "list" (kA.push v) c2) := ⟨_, get?_update_seq nk2 (·.push v)⟩
    have ek : kz.take (j + 1) = kz.take j ++ [k] := by rw [List.take_add_one, hkj]; simp
    have ea : (kA.push v).toList = kA.toList ++ [v] := by simp
    refine wpAny_bind (listUpdate_at nk2 rfl ?_ (Nat.le_trans hz hZ) (Nat.le_trans (Nat.le_of_eq (Array.size_push ..)) (Nat.succ_le_succ (Nat.le_trans hz hZ))))
    have keepS : ∀ (u : Value) (d : PyData), Reads g u d [] ∧ alike d d = true → Reads (g.update kS (Obj.mapSeq (·.push v))) u d [] ∧ alike d d = true := fun u d q =>
      ⟨Reads.keepBut (a := kS) (fun b o hb e => (s1.2 b hb).trans e) (fun o e => by rw [nk2] at e; rw [← Option.some.inj e]) d u [] q.2 q.1 (by simp), q.2⟩
    refine wpAny_pure ⟨rfl, _, _, kA.push v, c2, rfl, (kp'.trans_all hg).same s1 (.inr hkS), hc2, (s1.2 a hka.symm).trans na2, ?_⟩
    rw [ea, ek]
    refine each_snoc (R := fun (u : Value) (d : PyData) => Reads (g.update kS (Obj.mapSeq (·.push v))) u d [] ∧ alike d d = true) (keepS v k ⟨hr, hkk⟩) ?_
    exact hk.mono fun u d q => keepS u d ⟨PyProof.Rows.Reads.keeps hg q.1, q.2⟩
  case done =>
    rintro s' ⟨h', tk, kA, e, rfl, kp', nk', na', hk⟩
    have hk' : EachIs (fun v k => ∃ as, Reads h' v k as) kA.toList kz := by
      have e3 : kz.take (0 + vs.length) = kz := List.take_of_length_le (by omega)
      rw [e3] at hk
      exact hk.mono fun v k q => ⟨[], q.1⟩
    have hsz : kA.size = vs.length := by
      have h1 := hk'.length
      rw [Array.length_toList] at h1
      omega
    try dsimp only
    refine wpAny_bind (listItems_at nk' rfl ?_)
    exact keyH_end (κ := dataKind h' kz) (h₁ := h₁) kp' hkS nk' na' hka (sorts_mix (s := { s with heap := h', toks := tk }) hk' M hT hu) hsz hZ fun h3 tk3 c k3 n3 => h h3 tk3 _ c k3 n3 ⟨h', kA.toList, rfl, hk'⟩
theorem mix_tree {f : Value} {n : Nat} {T : Value} (ho : s.heap.get? a = some (seqObj "list" vs.toArray n)) (hlen : kz.length = vs.length) (hZ : vs.length ≤ sizeLine) (hal : ∀ d, d ∈ kz → alike d d = true) (M : Mix kz T) (hT : (T == T) = true) (hu : ∀ d, d ∈ kz → A.units + d.depth < cLine)
    (turn : ∀ (i : Nat) (v : Value) (k : PyData), vs[i]? = some v → kz[i]? = some k → ∀ (h : Heap) (tk : Nat), KeepsBut a s.heap h →
      wpAny (model prog w) A (call f [v]) (KeyPure k { s with heap := h, toks := tk }) (fun _ _ => False) { s with heap := h, toks := tk })
    (h : ∀ h' tk out c, KeepsBut a s.heap h' → h'.get? a = some (seqObj "list" (List.toArray out) c) → MixOut kz vs out → P (.done (.ret .none)) { s with heap := h', toks := tk }) :
    wpAny (model prog w) A (ksk_tree a f false) P E s := by
  have ha : a < s.heap.objs.size := Heap.lt_size ho
  obtain ⟨e1, ho1⟩ : ∃ e1, (s.heap.update a (Obj.mapSeq fun _ => (#[] : Array Value))).get? a = some (seqObj "list" #[] e1) := ⟨_, get?_update_seq ho fun _ => #[]⟩
  have hkS : ((s.heap.update a (Obj.mapSeq fun _ => (#[] : Array Value))).push (seqObj "tuple" vs.toArray 0)).objs.size = s.heap.objs.size + 1 := by rw [size_push', Heap.size_update]
  unfold ksk_tree
  refine wpAny_bind (listItems_at ho rfl ?_)
  refine wpAny_bind (listUpdate_at ho rfl ?_ (by rw [List.size_toArray]; exact hZ) (Nat.zero_le _))
  refine wpAny_bind (seqEpoch_at ho1 rfl ?_)
  refine wpAny_bind (wpAny_newTuple ?_ (by show vs.length ≤ _; exact hZ))
  refine wpAny_bind (wpAny_newList ?_ (Nat.zero_le _))
  refine wpAny_holding ?_
  have kp : KeepsBut a s.heap (sortingHeap s.heap a vs) := fun b o hb q => sortingHeap_old hb q
  refine mix_rest (kz := kz) (h₁ := s.heap) (s := { s with heap := ((s.heap.update a (Obj.mapSeq fun _ => (#[] : Array Value))).push (seqObj "tuple" vs.toArray 0)).push (seqObj "list" #[] 0) }) (kS := ((s.heap.update a (Obj.mapSeq fun _ => (#[] : Array Value))).push (seqObj "tuple" vs.toArray 0)).objs.size)
    kp (Heap.get?_none_of_le (by rw [hkS]; exact Nat.le_succ _)) (Heap.get?_push_size _ rfl) (Heap.get?_push_of_some _ (Heap.get?_push_of_some _ ho1)) (by rw [hkS]; exact Nat.ne_of_gt (Nat.lt_succ_of_lt ha)) hlen hZ hal M hT hu turn h
end
section
variable {prog : Program} {w : World} {A : Around} {E : Value → Shared → Prop} {s : Shared} {β : Type} {vs : List Value} {bs : List β} {R : Value → β → Prop}
/-- sorted(xs, key=f) where the keys are such rows -/
theorem sorted_key_mix {l : Addr} {f : Value} {kw : List (Str × Value)} {Q : Value → Shared → Prop} {T : Value} (k : β → PyData) (hl : s.heap.IsList l vs.toArray) (e : EachIs R vs bs) (hal : ∀ d, d ∈ bs.map k → alike d d = true) (M : Mix (bs.map k) T) (hT : (T == T) = true) (hL : bs.length ≤ sizeLine)
    (hu : ∀ x, x ∈ bs → A.units + 2 + (k x).depth < cLine) (ha1 : argsOk "sorted" ⟨[.ref l], kw⟩) (ha2 : ∀ x, argsOk "list.sort" ⟨[.ref x], kw⟩) (ht : ∀ x, Builtin.«list.sort» ⟨[.ref x], kw⟩ = ksk_tree x f false)
    (turn : ∀ (v : Value) (x : β), R v x → x ∈ bs → ∀ (h : Heap) (tk : Nat), (∀ b o, s.heap.get? b = some o → h.get? b = some o) →
      wpAny (model prog w) A.in1.in1 (call f [v]) (KeyPure (k x) { s with heap := h, toks := tk }) (fun _ _ => False) { s with heap := h, toks := tk })
    (h : ∀ out c h' tk, (∀ b o, s.heap.get? b = some o → h'.get? b = some o) → s.heap.get? (s.heap.objs.size + 1) = none → h'.get? (s.heap.objs.size + 1) = some (seqObj "list" (List.toArray out) c) → out.length = bs.length → EachIs R out (bs.mergeSort (dataLe false k)) →
      Q (.ref (s.heap.objs.size + 1)) { s with heap := h', toks := tk }) :
    wpAny (model prog w) A (call (.builtin "sorted") [.ref l] kw) Q E s := by
  have fresh : s.heap.get? (s.heap.objs.size + 1) = none := Heap.get?_none_of_le (Nat.le_succ _)
  have up : ∀ {g : Heap}, KeepsBut (s.heap.objs.size + 1) (copyHeap s.heap vs) g → ∀ b o, s.heap.get? b = some o → g.get? b = some o := fun {g} kp b o q =>
    kp b o (Nat.ne_of_lt (Nat.lt_succ_of_lt (Heap.lt_size q))) (copyHeap_old q)
  refine sorted_of_sort hl (by rw [e.length]; exact hL) ha1 ha2 fun E' => ?_
  rw [ht]
  refine mix_tree (kz := bs.map k) (s := { s with heap := copyHeap s.heap vs }) (copyHeap_at s.heap vs) (by rw [List.length_map]; exact e.length.symm) (by rw [e.length]; exact hL) hal M hT (bound_map (A := A.in1.in1) hu)
    (keyH_turns (s := { s with heap := copyHeap s.heap vs }) e fun v x hR hx h tk kp => turn v x hR hx h tk (up kp)) fun h' tk out c kp hD ko => ⟨rfl, ?_⟩
  obtain ⟨hp, ks, rfl, hk⟩ := ko
  have hl2 : ks.length = vs.length := by rw [hk.length, List.length_map, e.length]
  exact h _ c h' tk (up kp) fresh hD (by rw [sortVals_length false hl2]; exact e.length) (sortVals_each (κ := dataKind hp (bs.map k)) (fun b => keyToks (k b)) e (each_of_map k (mix_keys M hk)))
end
end DR

namespace DR
open PySem PySem.Spec PyProof.Rows L2
/-! ### the text by places -/
def topS (i : Nat) : Stmt := PySem.Challenge.pw_loadanywhere_k01_sums_told.main.body.getD i (.Pass ⟨0, 0, 0, 0⟩)
/-- a def of the text that stands at a global name and keeps its promise -/
structure Has (P : Program) (w : World) (K : PySem.W.Frag) (mg : Str → Option Value) (base : Heap) (CX : CXT) (k : Nat) (x : Str) (ps : List Str) (sp : Sp) : Prop where
  ex : ∃ (f : Addr) (fd : FuncData), mg x = some (.ref f) ∧ PySem.W.keepIn K (.ref f) = true ∧ Binds K fd ps [] ∧ FnOk P w K mg base CX k f fd ps sp
theorem Has.mono {P : Program} {w : World} {K : PySem.W.Frag} {mg : Str → Option Value} {base : Heap} {CX : CXT} {j k : Nat} {x : Str} {ps : List Str} {sp : Sp} (h : Has P w K mg base CX j x ps sp) (l : j ≤ k) : Has P w K mg base CX k x ps sp := by
  obtain ⟨f, fd, a, b, c, d⟩ := h.ex
  exact ⟨f, fd, a, b, c, d.mono l⟩
section
variable {X : Cx} {CX : CXT} {k : Nat} {ps : List Str} {sp : Sp} {E : XK} {x : Str} {p pos : Pos} {e : Expr} {es : List Expr} {t : TA}
theorem pe_callH (F : Has X.prog X.w X.K X.mg X.base CX k x ps sp) (hr : Room k X.A) (hg : Gl X x) (hx : Passes CX X E)
    (ha : PA X (e :: es) t) (hdb : (x == ("__debug__" : Str)) = false := by decide) (he : starEach (e :: es) X.env = (false, eval e X.env) :: starEach es X.env := by rfl) (hpl : (backTo pos (starEach es X.env)).any (·.1) = false := by rfl) :
    PE X (.Call (.Name x p) (e :: es) [] pos) (tCall sp [] E t) := by
  obtain ⟨f, fd, a, b, c, d⟩ := F.ex
  exact pe_call d hr hg a b c .nil hx ha hdb he hpl
end
/-- the names of built-ins that the law and the program ask -/
structure Bi (mg : Str → Option Value) : Prop where
  len : mg "len" = none
  int : mg "int" = none
  str : mg "str" = none
  bool : mg "bool" = none
  list : mg "list" = none
  tuple : mg "tuple" = none
  isinstance : mg "isinstance" = none
  all : mg "all" = none
  sorted : mg "sorted" = none
  range : mg "range" = none
  enumerate : mg "enumerate" = none
  zip : mg "zip" = none
  dict : mg "dict" = none
  min : mg "min" = none
  set : mg "set" = none
end DR

namespace DR
open PySem PySem.Spec PyProof.Rows L2
/-! ### things: data, and the empty dict -/
theorem rd_same {H H' : Hp} {a : Addr} {u : HO} (e : Same H H') (h : Rd H a u) : Rd H' a u := by
  rcases h with h | ⟨o, h⟩
  · exact .inl (e _ _ h)
  · exact .inr ⟨o, e _ _ h⟩
theorem sqL_same {K : PySem.W.Frag} {H H' : Hp} {a : Addr} {xs : List V} (e : Same H H') (h : SqL K H a xs) : SqL K H' a xs := e.seq h
theorem sqT_same {K : PySem.W.Frag} {H H' : Hp} {a : Addr} {xs : List V} (e : Same H H') (h : SqT K H a xs) : SqT K H' a xs := by
  rcases h with h | h
  · exact .inl (rd_same e h)
  · exact .inr h
mutual
theorem dp_same {K : PySem.W.Frag} {H H' : Hp} (e : Same H H') : ∀ {v : V} {d : PyData}, Dp K H v d → Dp K H' v d
  | _, _, .non => .non
  | _, _, .bl b => .bl b
  | _, _, .int i => .int i
  | _, _, .str x => .str x
  | _, _, .lst s a => .lst (sqL_same e s) (dps_same e a)
  | _, _, .tup s a => .tup (sqT_same e s) (dps_same e a)
theorem dps_same {K : PySem.W.Frag} {H H' : Hp} (e : Same H H') : ∀ {vs : List V} {ds : List PyData}, DpAll K H vs ds → DpAll K H' vs ds
  | _, _, .nil => .nil
  | _, _, .cons h t => .cons (dp_same e h) (dps_same e t)
end
theorem same_new {H : Hp} {p : Addr} {o : HO} (h : H p = none) : Same H (upd H p o) := fun b x e => by
  rw [upd_ne (ne_of_none e h)]
  exact e
/-- data, or a dict -/
inductive Th (K : PySem.W.Frag) (H : Hp) : V → PyData → Prop
  | dat {v : V} {d : PyData} : Dp K H v d → Th K H v d
  | dct {a : Addr} {kvs : List (Key × V)} : H a = some (.dK kvs) → Th K H (.ref a) (.dict [])
theorem th_same {K : PySem.W.Frag} {H H' : Hp} (e : Same H H') {v : V} {d : PyData} : Th K H v d → Th K H' v d
  | .dat h => .dat (dp_same e h)
  | .dct h => .dct (e _ _ h)
def tyN : PyData → String
  | .none => "NoneType"
  | .bool _ => "bool"
  | .int _ => "int"
  | .str _ => "str"
  | .list _ => "list"
  | .tuple _ => "tuple"
  | .dict _ => "dict"
theorem ty_list {K : PySem.W.Frag} {H : Hp} {a : Addr} {xs : List V} (h : SqL K H a xs) : TyX K H (.ref a) (.type "list") := by
  rcases h with (h | ⟨o, h⟩) | ⟨o, its, n, h, c, _⟩
  · exact .base (.lst h)
  · exact .base (.frz h)
  · exact .kList h c
theorem ty_tup {K : PySem.W.Frag} {H : Hp} {a : Addr} {xs : List V} (h : SqT K H a xs) : TyX K H (.ref a) (.type "tuple") := by
  rcases h with (h | ⟨o, h⟩) | ⟨o, its, n, h, c, _⟩
  · exact .base (.tup h)
  · exact .fTuple h
  · exact .kTuple h c
theorem th_ty {K : PySem.W.Frag} {H : Hp} {v : V} {d : PyData} (h : Th K H v d) : TyX K H v (.type (tyN d)) := by
  cases h with
  | dct h => exact .base (.dK h)
  | dat h =>
    cases h with
    | non => exact .base .non
    | bl b => exact .base (.bl b)
    | int i => exact .base (.int i)
    | str x => exact .base (.str x)
    | lst s _ => exact ty_list s
    | tup s _ => exact ty_tup s
def isI : PyData → Bool
  | .int _ => true
  | _ => false
def isIB : PyData → Bool
  | .int _ => true
  | .bool _ => true
  | _ => false
def isB : PyData → Bool
  | .bool _ => true
  | _ => false
def isS : PyData → Bool
  | .str _ => true
  | _ => false
def isR : PyData → Bool
  | .list _ => true
  | .tuple _ => true
  | _ => false
def tyNs : List String := ["NoneType", "bool", "int", "str", "list", "tuple", "dict"]
theorem tyN_mem (d : PyData) : tyN d ∈ tyNs := by cases d <;> simp [tyN, tyNs]
theorem kb_int : ∀ n ∈ tyNs, kitB n "int" = some (n == "int" || n == "bool") := by decide +kernel
theorem kb_bool : ∀ n ∈ tyNs, kitB n "bool" = some (n == "bool") := by decide +kernel
theorem kb_str : ∀ n ∈ tyNs, kitB n "str" = some (n == "str") := by decide +kernel
theorem kb_list : ∀ n ∈ tyNs, kitB n "list" = some (n == "list") := by decide +kernel
theorem kb_tup : ∀ n ∈ tyNs, kitB n "tuple" = some (n == "tuple") := by decide +kernel
theorem kit_int {K : PySem.W.Frag} (d : PyData) : PySem.W.kitOne K (.type (tyN d)) (.type "int") = some (isIB d) := by
  have h := kb_int _ (tyN_mem d)
  have e : (tyN d == "int" || tyN d == "bool") = isIB d := by cases d <;> rfl
  rw [e] at h
  exact kit_ty h
theorem kit_bool {K : PySem.W.Frag} (d : PyData) : PySem.W.kitOne K (.type (tyN d)) (.type "bool") = some (isB d) := by
  have h := kb_bool _ (tyN_mem d)
  have e : (tyN d == "bool") = isB d := by cases d <;> rfl
  rw [e] at h
  exact kit_ty h
theorem kit_str {K : PySem.W.Frag} (d : PyData) : PySem.W.kitOne K (.type (tyN d)) (.type "str") = some (isS d) := by
  have h := kb_str _ (tyN_mem d)
  have e : (tyN d == "str") = isS d := by cases d <;> rfl
  rw [e] at h
  exact kit_ty h
theorem kit_row {K : PySem.W.Frag} (d : PyData) : PySem.W.kitAny K (.type (tyN d)) [.type "list", .type "tuple"] = some (isR d) := by
  have h1 := kb_list _ (tyN_mem d)
  have h2 := kb_tup _ (tyN_mem d)
  refine kitAny_cons (kit_ty h1) (fun z => kitAny_cons (kit_ty h2) (fun z2 => ?_) fun z2 => ?_) fun z => ?_
  all_goals
    revert z
    try revert z2
    cases d <;> simp [tyN, isR, kitAny_nil]
/-- isinstance of a thing, one class -/
theorem isi1 {K : PySem.W.Frag} {H : Hp} {v : V} {d : PyData} {n : String} {b : Bool} {Q : VK} (h : Th K H v d) (k : PySem.W.kitOne K (.type (tyN d)) (.type n) = some b) (q : Q (.bl b) H) : rIsi K [v, .ty n] H Q :=
  ⟨v, .ty n, _, _, b, rfl, .ty n, th_ty h, k, q⟩
def spIsInt (K : PySem.W.Frag) : Sp := fun vs H Q _ => ∃ v d, vs = [v] ∧ Th K H v d ∧ Q (.bl (isI d)) H
def spIsRow (K : PySem.W.Frag) : Sp := fun vs H Q _ => ∃ v d, vs = [v] ∧ Th K H v d ∧ ∀ H', Same H H' → Q (.bl (isR d)) H'
/-- the items of a list or tuple -/
def items : PyData → Option (List PyData)
  | .list xs => some xs
  | .tuple xs => some xs
  | _ => none
def isRof (d : PyData) (n : Int) : Bool := match items d with
  | some xs => decide ((xs.length : Int) = n)
  | none => false
def spIsRowOf (K : PySem.W.Frag) : Sp := fun vs H Q _ => ∃ v d n, vs = [v, .int n] ∧ Th K H v d ∧ ∀ H', Same H H' → Q (.bl (isRof d n)) H'
theorem dps_len {K : PySem.W.Frag} {H : Hp} : ∀ {vs : List V} {ds : List PyData}, DpAll K H vs ds → vs.length = ds.length
  | _, _, .nil => rfl
  | _, _, .cons _ t => congrArg (· + 1) (dps_len t)
/-- a thing that is a row: its place and items -/
theorem th_row {K : PySem.W.Frag} {H : Hp} {v : V} {d : PyData} (h : Th K H v d) {ds : List PyData} (e : items d = some ds) : ∃ a xs, v = .ref a ∧ (SqL K H a xs ∨ SqT K H a xs) ∧ DpAll K H xs ds := by
  cases h with
  | dct h => cases e
  | dat h =>
    cases h with
    | non => cases e
    | bl b => cases e
    | int i => cases e
    | str x => cases e
    | lst s t =>
      cases e
      exact ⟨_, _, rfl, .inl s, t⟩
    | tup s t =>
      cases e
      exact ⟨_, _, rfl, .inr s, t⟩
theorem isR_items (d : PyData) : isR d = (items d).isSome := by cases d <;> rfl
abbrev sIsInt : Stmt := topS 7
abbrev sIsRow : Stmt := topS 8
abbrev sIsRowOf : Stmt := topS 9
abbrev sIsName : Stmt := topS 10
theorem scIsInt : FnScope ["thing"] ["thing"] (defScope sIsInt) := ⟨rfl, rfl, rfl, by decide +kernel, rfl, by decide +kernel, by decide +kernel⟩
theorem scIsRow : FnScope ["thing"] ["thing"] (defScope sIsRow) := ⟨rfl, rfl, rfl, by decide +kernel, rfl, by decide +kernel, by decide +kernel⟩
theorem scIsRowOf : FnScope ["thing", "many"] ["thing", "many"] (defScope sIsRowOf) := ⟨rfl, rfl, rfl, by decide +kernel, rfl, by decide +kernel, by decide +kernel⟩
theorem scIsName : FnScope ["thing", "letter"] ["thing"] (defScope sIsName) := ⟨rfl, rfl, rfl, by decide +kernel, rfl, by decide +kernel, by decide +kernel⟩
def lettersS : Str := "abcdefghijklmnopqrstuvwxyz"
def isNmS (s : Str) : Bool := decide (1 ≤ (s.length : Int)) && (decide ((s.length : Int) ≤ 8) && s.cps.toList.all fun c => decide (c ∈ lettersS.cps.toList))
def isNm : PyData → Bool
  | .str s => isNmS s
  | _ => false
/-- a thing whose text, if it is one, is not too long -/
def shortS : PyData → Prop
  | .str s => s.length ≤ 1000
  | _ => True
def spIsName (K : PySem.W.Frag) : Sp := fun vs H Q _ => ∃ v d, vs = [v] ∧ Th K H v d ∧ shortS d ∧ ∀ H', Same H H' → Q (.bl (isNm d)) H'
section
variable {P : Program} {w : World} {K : PySem.W.Frag} {mg : Str → Option Value} {base : Heap}
theorem ok_isInt {f : Addr} {fd : FuncData} (F : Fun K "is_integer" "is_integer" sIsInt f fd) (T : Bi mg) : FnOk P w K mg base CX0 1 f fd ["thing"] (spIsInt K) := by
  refine F.ok scIsInt (fun vs H Q E h => ?_) (fun cdv A outer s H vs Q E hr h => ?_)
  · obtain ⟨v, d, rfl, _⟩ := h
    rfl
  · obtain ⟨v, d, rfl, th, q⟩ := h
    refine ⟨_, (pss_one (ps_ret (pe_and (pe_callB call_isi (by rfl) T.isinstance (by decide +kernel) (pa_cons (pv 0) (pa_cons (pe_bltn (v := .ty "int") (by rfl) T.int (by decide +kernel) rfl) pa_nil))) (pe_one (pe_not (pe_callB call_isi (by rfl) T.isinstance (by decide +kernel) (pa_cons (pv 0) (pa_cons (pe_bltn (v := .ty "bool") (by rfl) T.bool (by decide +kernel) rfl) pa_nil)))))))), ?_⟩
    refine ⟨_, rfl, v, _, _, _, _, rfl, .ty "int", th_ty th, kit_int d, _, rfl, ?_⟩
    cases e : isIB d with
    | false =>
      refine iteF ?_
      have z : isI d = false := by cases d <;> first | rfl | cases e
      rw [z] at q
      exact q
    | true =>
      refine iteT ⟨_, rfl, v, _, _, _, _, rfl, .ty "bool", th_ty th, kit_bool d, _, rfl, ?_⟩
      have z : isI d = !isB d := by cases d <;> first | rfl | cases e
      rw [z] at q
      exact q
theorem ok_isRow {f : Addr} {fd : FuncData} (F : Fun K "is_row" "is_row" sIsRow f fd) (T : Bi mg) : FnOk P w K mg base CX0 1 f fd ["thing"] (spIsRow K) := by
  refine F.ok scIsRow (fun vs H Q E h => ?_) (fun cdv A outer s H vs Q E hr h => ?_)
  · obtain ⟨v, d, rfl, _⟩ := h
    rfl
  · obtain ⟨v, d, rfl, th, q⟩ := h
    refine ⟨_, (pss_one (ps_ret (pe_callB call_isiT (by rfl) T.isinstance (by decide +kernel) (pa_cons (pv 0) (pa_cons (pe_tup (pa_cons (pe_bltn (v := .ty "list") (by rfl) T.list (by decide +kernel) rfl) (pa_cons (pe_bltn (v := .ty "tuple") (by rfl) T.tuple (by decide +kernel) rfl) pa_nil))) pa_nil))))), ?_⟩
    refine ⟨_, rfl, (by show 2 ≤ sizeLine; decide), fun p hp => ?_⟩
    refine ⟨v, p, _, _, _, _, rfl, upd_same, .cons (.ty "list") (.cons (.ty "tuple") .nil), th_ty (th_same (same_new hp) th), kit_row d, q _ (same_new hp)⟩
theorem ok_isRowOf {f : Addr} {fd : FuncData} (F : Fun K "is_row_of" "is_row_of" sIsRowOf f fd) (T : Bi mg) (G : Has P w K mg base CX0 1 "is_row" ["thing"] (spIsRow K)) : FnOk P w K mg base CX0 2 f fd ["thing", "many"] (spIsRowOf K) := by
  refine F.ok scIsRowOf (fun vs H Q E h => ?_) (fun cdv A outer s H vs Q E hr h => ?_)
  · obtain ⟨v, d, n, rfl, _⟩ := h
    rfl
  · obtain ⟨v, d, n, rfl, th, q⟩ := h
    refine ⟨_, (pss_one (ps_ret (pe_and (pe_callH G hr (by rfl) pass0 (pa_cons (pv 0) pa_nil)) (pe_one (pe_cmpR op_eq (pe_callB call_len_seq (by rfl) T.len (by decide +kernel) (pa_cons (pv 0) pa_nil)) (pv 1) (nomark _)))))), ?_⟩
    refine ⟨_, rfl, v, d, rfl, th, fun H' sm => ⟨_, rfl, ?_⟩⟩
    rw [isR_items]
    have q' := q H' sm
    unfold isRof at q'
    cases e : items d with
    | none =>
      rw [e] at q'
      exact iteF q'
    | some ds =>
      rw [e] at q'
      obtain ⟨a, xs, rfl, hs, ha⟩ := th_row (th_same sm th) e
      refine iteT ⟨_, rfl, a, xs, rfl, hs, _, rfl, rfl, ?_⟩
      rw [dps_len ha]
      have z : decide (V.int (ds.length : Int) = V.int n) = decide ((ds.length : Int) = n) := by
        by_cases c : (ds.length : Int) = n
        · rw [c]; simp
        · rw [decide_eq_false c]
          exact decide_eq_false fun z => c (V.int.inj z)
      rw [z]
      exact q'
theorem yes_go {σ : L2.St} {H : Hp} {F : Bool → Hp → Prop} (h : F true H) : tYes σ H F := h
theorem ok_isName {f : Addr} {fd : FuncData} {t : Tok} (F : Fun K "is_name" "is_name" sIsName f fd) (T : Bi mg) (gL : mg "LETTERS" = some (.str lettersS t)) : FnOk P w K mg base CX0 1 f fd ["thing"] (spIsName K) := by
  refine F.ok scIsName (fun vs H Q E h => ?_) (fun cdv A outer s H vs Q E hr h => ?_)
  · obtain ⟨v, d, rfl, _⟩ := h
    rfl
  · obtain ⟨v, d, rfl, th, sh, q⟩ := h
    refine ⟨_, (pss_cons (ps_if (PW.pt (pw_or (pt_not (pt_val (pe_callB call_isi (by rfl) T.isinstance (by decide +kernel) (pa_cons (pv 0) (pa_cons (pe_bltn (v := .ty "str") (by rfl) T.str (by decide +kernel) rfl) pa_nil))))) (pw_or1 (pt_not (pt_chain op_le op_le pe_int (pe_callB call_len_str (by rfl) T.len (by decide +kernel) (pa_cons (pv 0) pa_nil)) pe_int))))) (pss_one (ps_ret pe_bl)) pss_nil)
      (pss_one (ps_ret (pe_callB (cr_all rfl) (by rfl) T.all (by decide +kernel) (pa_cons (pe_lc (own := [("letter", 1)]) (g := gName 1) (tt := tYes) rfl scIsName.nd (pi_str (pv 0)) (blkOk_by (N := ["thing", "letter"]) (sc := defScope sIsName) (by decide +kernel)) (fun _ _ _ _ _ => pg_name (i := 1) scIsName.nd rfl (.inl rfl)) (fun _ _ _ _ _ => pts_nil) (fun _ _ _ _ _ => (pe_cmpR op_in_sign (pv 1) (pe_glob (v := .str lettersS) rfl gL ⟨_, rfl⟩) (by rfl)))) pa_nil))))), ?_⟩
    refine ⟨_, rfl, v, _, _, _, _, rfl, .ty "str", th_ty th, kit_str d, _, rfl, ?_⟩
    cases d with
    | str s =>
      obtain rfl : v = .str s := by
        cases th with
        | dat h => cases h; rfl
      have hl : s.length ≤ sizeLine := Nat.le_trans sh (by decide)
      refine iteF ⟨_, rfl, s, rfl, hl, _, _, rfl, rfl, _, rfl, ?_⟩
      have q0 : Q (.bl (isNmS s)) H := q H (Same.refl H)
      unfold isNmS at q0
      cases c1 : decide (1 ≤ (s.length : Int)) with
      | false =>
        rw [c1] at q0
        exact iteF ⟨_, rfl, iteT q0⟩
      | true =>
        refine iteT ⟨_, _, rfl, rfl, _, rfl, ?_⟩
        cases c2 : decide ((s.length : Int) ≤ 8) with
        | false =>
          rw [c1, c2] at q0
          exact iteT q0
        | true =>
          refine iteF ⟨_, rfl, s, rfl, fun D hD => ?_⟩
          have e1 : (isNmS s) = s.cps.toList.all fun c => decide (c ∈ lettersS.cps.toList) := by
            unfold isNmS
            rw [c1, c2]
            rfl
          refine lc_it (walk_str (z := s)) (fun i H' => (∀ b o, b ≠ D → H b = some o → H' b = some o) ∧ H' D = some (.lst (((s.cps.toList.take i).map fun c => decide (c ∈ lettersS.cps.toList)).map V.bl))) ⟨fun b o hb e => by rw [upd_ne hb]; exact e, upd_same⟩ (fun _ _ _ _ => trivial) ?_ ?_
          · rintro i x H1 H2 hi ⟨kp, hd⟩ ⟨rfl, c, hc, rfl⟩
            have hc' : s.cps.toList[i]? = some c := by simpa using hc
            refine ⟨rfl, ?_⟩
            refine yes_go (iteT ?_)
            refine ⟨_, rfl, c, lettersS, rfl, rfl, _, hd, ?_, fun b o hb e => ?_, ?_⟩
            · rw [List.length_map, List.length_map, List.length_take]
              refine Nat.lt_of_le_of_lt (Nat.min_le_right _ _) (Nat.lt_of_le_of_lt (m := 1000) ?_ (by decide))
              have e2 : s.cps.toList.length = s.length := by simp [Str.length]
              have sh' : s.length ≤ 1000 := sh
              omega
            · rw [upd_ne hb]
              exact kp b o hb e
            · rw [upd_same, List.take_add_one, hc']
              simp
          · rintro H1 ⟨kp, hd⟩
            refine ⟨D, _, rfl, SqL.of hd, ?_⟩
            have e2 : s.cps.toList.take s.cps.size = s.cps.toList := by
              rw [← Array.length_toList]
              exact List.take_length
            have e3 : ((s.cps.toList.take s.cps.size).map fun c => decide (c ∈ lettersS.cps.toList)).all id = isNm (.str s) := by
              rw [e2, List.all_map]
              exact e1.symm
            rw [e3]
            exact q H1 fun b o e => kp b o (ne_of_none e hD) e
    | none => exact iteT (q H (Same.refl H))
    | bool b => exact iteT (q H (Same.refl H))
    | int i => exact iteT (q H (Same.refl H))
    | list xs => exact iteT (q H (Same.refl H))
    | tuple xs => exact iteT (q H (Same.refl H))
    | dict xs => exact iteT (q H (Same.refl H))
end
end DR

namespace DR
open PySem PySem.Spec PyProof.Rows L2
theorem at_of {xs : List V} {i : Nat} {v : V} (h : xs[i]? = some v) : atI xs (i : Int) = some v := by
  have hi : i < xs.length := (List.getElem?_eq_some_iff.mp h).1
  unfold atI ixN
  rw [if_pos (by omega), if_pos (by omega)]
  show xs[((i : Int)).toNat]? = _
  rw [Int.toNat_natCast]
  exact h
theorem at_last {xs : List V} {v : V} : atI (xs ++ [v]) (-1) = some v := by
  unfold atI ixN
  rw [if_neg (by omega), if_pos (by simp; omega)]
  show (xs ++ [v])[_]? = _
  have e : (-1 + ((xs ++ [v]).length : Int)).toNat = xs.length := by
    rw [List.length_append, List.length_singleton]
    omega
  rw [e]
  simp
theorem strEq (a b : Str) : decide (V.str a = V.str b) = decide (a = b) := by
  by_cases c : a = b
  · rw [c]; simp
  · rw [decide_eq_false c]
    exact decide_eq_false fun z => c (V.str.inj z)
theorem intEq (a b : Int) : decide (V.int a = V.int b) = decide (a = b) := by
  by_cases c : a = b
  · rw [c]; simp
  · rw [decide_eq_false c]
    exact decide_eq_false fun z => c (V.int.inj z)
theorem small1000 {n : Nat} (h : n ≤ 1000) : n < sizeLine := Nat.lt_of_le_of_lt h (by decide)
theorem same_upd {H H' : Hp} {p : Addr} {o : HO} (e : Same H H') (hp : H p = none) : Same H (upd H' p o) := fun b u hb => by
  rw [upd_ne (ne_of_none hb hp)]
  exact e _ _ hb
def SqE (K : PySem.W.Frag) (H : Hp) (a : Addr) (xs : List V) : Prop := SqL K H a xs ∨ SqT K H a xs
theorem sqE_same {K : PySem.W.Frag} {H H' : Hp} {a : Addr} {xs : List V} (e : Same H H') (h : SqE K H a xs) : SqE K H' a xs := h.imp (sqL_same e) (sqT_same e)
theorem cut_from {xs : List V} {r : Nat} (h : r ≤ xs.length) : cutV xs (some (r : Int)) none = xs.drop r := by
  unfold cutV
  rw [HT.sIx_none, HT.sIx_nat, Nat.min_eq_left h]
  rw [List.take_of_length_le (by rw [List.length_drop]; exact Nat.le_refl _)]
theorem cut_to {xs : List V} {r : Nat} (h : r ≤ xs.length) : cutV xs none (some (r : Int)) = xs.take r := by
  unfold cutV
  rw [HT.sIx_none, HT.sIx_nat, List.drop_zero, Nat.sub_zero, Nat.min_eq_left h]
theorem cut_1 (xs : List V) : cutV xs (some 1) none = xs.drop 1 := by
  cases xs with
  | nil => rfl
  | cons x xs => exact cut_from (r := 1) (by simp)
end DR

namespace DR
open PySem PySem.Spec PyProof.Rows L2
def sPiece : Str := "piece"
def sName : Str := "name"
def sIn : Str := "in"
def rank (z : Str) : Option Int := if z = sPiece then some 0 else if z = sName then some 1 else if z = sIn then some 2 else none
/-- the dict RANKS of the text -/
structure Ranks (K : PySem.W.Frag) (w : World) (mg : Str → Option Value) (d : Addr) : Prop where
  g : mg "RANKS" = some (.ref d)
  kd : ∃ es n, KDict K w d es n
  has : ∀ z i, rank z = some i → ∃ t, PySem.W.nsIn K d z = some (some (.int i t))
  no : ∀ z, rank z = none → PySem.W.nsIn K d z = some none
def ofKey (k : Str) (o : PyData) : Option Key := if k = sIn then (match o with
    | .int i => if 1 ≤ i then some (.inl i) else none
    | _ => none) else (match o with
    | .str s => if isNmS s = true then some (.inr s) else none
    | _ => none)
def unkOf (k : Str) (o : PyData) : Option (List Key) := (rank k).bind fun _ => (ofKey k o).map fun z => [.inr k, z]
def readUnk : PyData → Option (List Key)
  | .tuple [.str k, o] => unkOf k o
  | .list [.str k, o] => unkOf k o
  | _ => none
/-- texts in a pair are short -/
def shortP : PyData → Prop
  | .tuple [a, b] => shortS a ∧ shortS b
  | .list [a, b] => shortS a ∧ shortS b
  | _ => True
def UnkV (H : Hp) (v : V) : Option (List Key) → Prop
  | none => v = .non
  | some u => ∃ a, v = .ref a ∧ H a = some (.tup (u.map kV))
def spReadUnk (K : PySem.W.Frag) : Sp := fun vs H Q _ => ∃ v d, vs = [v] ∧ Th K H v d ∧ shortP d ∧ ∀ v' H', Same H H' → UnkV H' v' (readUnk d) → Q v' H'
abbrev sReadUnk : Stmt := topS 13
theorem scReadUnk : FnScope ["thing", "kind", "of", "right"] ["thing"] (defScope sReadUnk) := ⟨rfl, rfl, rfl, by decide +kernel, rfl, by decide +kernel, by decide +kernel⟩
theorem rank_in : rank sIn = some 2 := by decide +kernel
theorem eq_str (a b : Str) : decide (V.str a = V.str b) = decide (a = b) := by
  by_cases c : a = b
  · rw [c]; simp
  · rw [decide_eq_false c]
    exact decide_eq_false fun z => c (V.str.inj z)
theorem eq_int (a b : Int) : decide (V.int a = V.int b) = decide (a = b) := by
  by_cases c : a = b
  · rw [c]; simp
  · rw [decide_eq_false c]
    exact decide_eq_false fun z => c (V.int.inj z)
/-- two names from a list or a tuple -/
def gRow (K : PySem.W.Frag) (n : Nat) (t : TGs) : TG := fun v σ H Q => gTup K n t v σ H Q ∨ gLst K n t v σ H Q
theorem pg_row {X : Cx} {pos : Pos} {es : List Expr} {k : Nat} {t : TGs} {n : Nat} (hc : X.calm = true) (h : PGs X es t) (hn : (assignEach es X.env).length = n := by rfl) (hst : (assignEach es X.env).findIdx? (·.1) = none := by rfl) : PG X (.Tuple es k pos) (gRow X.K n t) :=
  ⟨fun pins s σ H v u Q I r hw => hw.elim (fun z => (pg_tup hc h hn hst).run pins s σ H v u Q I r z) fun z => (pg_lst hc h hn hst).run pins s σ H v u Q I r z⟩
theorem th_tup {K : PySem.W.Frag} {H : Hp} {v : V} {ds : List PyData} (h : Th K H v (.tuple ds)) : ∃ a xs, v = .ref a ∧ SqT K H a xs ∧ DpAll K H xs ds := by
  cases h with
  | dat h =>
    cases h with
    | tup s t => exact ⟨_, _, rfl, s, t⟩
section
variable {P : Program} {w : World} {K : PySem.W.Frag} {mg : Str → Option Value} {base : Heap}
theorem ok_readUnk {f d0 : Addr} {fd : FuncData} (F : Fun K "read_unknown" "read_unknown" sReadUnk f fd) (T : Bi mg) (R : Ranks K w mg d0) (G1 : Has P w K mg base CX0 2 "is_row_of" ["thing", "many"] (spIsRowOf K))
    (G2 : Has P w K mg base CX0 2 "is_integer" ["thing"] (spIsInt K)) (G3 : Has P w K mg base CX0 2 "is_name" ["thing"] (spIsName K)) : FnOk P w K mg base CX0 3 f fd ["thing"] (spReadUnk K) := by
  refine F.ok scReadUnk (fun vs H Q E h => ?_) (fun cdv A outer s H vs Q E hr h => ?_)
  · obtain ⟨v, d, rfl, _⟩ := h
    rfl
  · obtain ⟨v, d, rfl, th, sh, q⟩ := h
    obtain ⟨es, n, kd⟩ := R.kd
    refine ⟨_, (pss_cons (ps_if (pt_not (pt_val (pe_callH G1 hr (by rfl) pass0 (pa_cons (pv 0) (pa_cons pe_int pa_nil))))) (pss_one (ps_ret pe_non)) pss_nil)
      (pss_cons (ps_asg (pv 0) (pg_row rfl (pgs_cons (pg_name (i := 1) scReadUnk.nd rfl (.inl rfl)) (pgs_cons (pg_name (i := 2) scReadUnk.nd rfl (.inl rfl)) pgs_nil))))
      (pss_cons (ps_if (PW.pt (pw_or (pt_not (pt_val (pe_callB call_isi (by rfl) T.isinstance (by decide +kernel) (pa_cons (pv 1) (pa_cons (pe_bltn (v := .ty "str") (by rfl) T.str (by decide +kernel) rfl) pa_nil))))) (pw_or1 (pt_cmpR (op_notIn_kd kd) (pv 1) (pe_glob (v := .ref d0) rfl R.g rfl) (by rfl))))) (pss_one (ps_ret pe_non)) pss_nil)
      (pss_cons (ps_if (pt_cmpR op_eq (pv 1) pe_str (nomark _)) (pss_one (ps_set (i := 3) scReadUnk.nd rfl (.inl rfl) (pe_and (pe_callH G2 hr (by rfl) pass0 (pa_cons (pv 2) pa_nil)) (pe_one (pe_cmpR op_ge (pv 2) pe_int (nomark _)))))) (pss_one (ps_set (i := 3) scReadUnk.nd rfl (.inl rfl) (pe_callH G3 hr (by rfl) pass0 (pa_cons (pv 2) pa_nil)))))
      (pss_one (ps_ret (pe_ifExp (pt_val (pv 3)) (pe_tup (pa_cons (pv 1) (pa_cons (pv 2) pa_nil))) pe_non))))))), ?_⟩
    refine ⟨_, rfl, v, d, 2, rfl, th, fun H1 sm1 => ⟨_, rfl, ?_⟩⟩
    have th1 := th_same sm1 th
    cases e : isRof d 2 with
    | false =>
      refine iteT ?_
      refine q _ _ sm1 ?_
      have z : readUnk d = none := by
        unfold readUnk
        split
        · rename_i k o
          revert e
          simp [isRof, items]
        · rename_i k o
          revert e
          simp [isRof, items]
        · rfl
      rw [z]
      rfl
    | true =>
      refine iteF ?_
      obtain ⟨x, y, ei, er, shp⟩ : ∃ x y, items d = some [x, y] ∧ (∀ o, readUnk (.tuple [x, y]) = o → readUnk d = o) ∧ (shortS x ∧ shortS y) := by
        have two : ∀ {xs : List PyData}, ((xs.length : Int) = 2) → ∃ x y, xs = [x, y] := fun {xs} e' => by
          match xs, e' with
          | [x, y], _ => exact ⟨x, y, rfl⟩
          | [], z => exact absurd z (by decide)
          | [_], z => exact absurd z (by simp)
          | _ :: _ :: _ :: _, z => simp at z; omega
        unfold isRof at e
        cases d with
        | tuple xs =>
          obtain ⟨x, y, rfl⟩ := two (of_decide_eq_true e)
          exact ⟨x, y, rfl, fun o h => h, sh⟩
        | list xs =>
          obtain ⟨x, y, rfl⟩ := two (of_decide_eq_true e)
          refine ⟨x, y, rfl, fun o h => ?_, sh⟩
          rw [← h]
          unfold readUnk
          cases x <;> rfl
        | none => cases e
        | bool b => cases e
        | int i => cases e
        | str s => cases e
        | dict k => cases e
      obtain ⟨a, xs, rfl, hs, ha⟩ := th_row th1 ei
      cases ha with
      | cons h1 h2 =>
      cases h2 with
      | cons h2 h3 =>
      cases h3
      rename_i v1 v2
      have unp : ∀ {D : L2.St → Hp → Prop}, D ([some (V.ref a), some v1, some v2, none] : L2.St) H1 → gRow K 2 (gCons (gName 1) (gCons (gName 2) gNil)) (.ref a) [some (V.ref a), none, none, none] H1 D := fun {D} h => by
        rcases hs with hs | hs
        · exact .inr ⟨a, _, rfl, hs, rfl, v1, _, rfl, v2, _, rfl, rfl, h⟩
        · exact .inl ⟨a, _, rfl, hs, rfl, v1, _, rfl, v2, _, rfl, rfl, h⟩
      refine ⟨_, rfl, unp ?_⟩
      refine ⟨_, rfl, v1, _, _, _, _, rfl, .ty "str", th_ty (.dat h1), kit_str x, _, rfl, ?_⟩
      cases x with
      | str k =>
        cases h1
        refine iteF ?_
        cases e2 : rank k with
        | none =>
          refine ⟨_, rfl, k, _, rfl, rfl, R.no k e2, _, rfl, iteT ?_⟩
          refine q _ _ sm1 ?_
          have z : readUnk (.tuple [.str k, y]) = none := by
            show unkOf k y = none
            unfold unkOf
            rw [e2]
            rfl
          rw [er _ z]
          rfl
        | some i =>
          obtain ⟨t, ht⟩ := R.has k i e2
          refine ⟨_, rfl, k, _, rfl, rfl, ht, _, rfl, iteF ?_⟩
          have ez : readUnk (.tuple [.str k, y]) = (ofKey k y).map fun z => [.inr k, z] := by
            show unkOf k y = _
            unfold unkOf
            rw [e2]
            rfl
          rw [er _ ez] at q
          have fin : ∀ (b : Bool) (H2 : Hp), Same H1 H2 → (b = true → ∃ z, v2 = kV z ∧ ofKey k y = some z) → (b = false → ofKey k y = none) →
              tRet (tIf (tB (tVar 3)) (tTup (tCons (tVar 1) (tCons (tVar 2) tNil))) (tC .non)) { nx := fun _ H' => Q .non H', rt := Q } [some (.ref a), some (.str k), some v2, some (.bl b)] H2 := by
            intro b H2 sm2 ht hf
            refine ⟨_, rfl, _, rfl, ?_⟩
            cases b with
            | true =>
              obtain ⟨z, rfl, ez⟩ := ht rfl
              refine iteT ⟨_, rfl, _, rfl, (by show 2 ≤ sizeLine; decide), fun p hp => ?_⟩
              refine q _ _ ((sm1.trans sm2).trans (same_new hp)) ?_
              rw [ez]
              exact ⟨p, rfl, upd_same⟩
            | false =>
              refine iteF ?_
              refine q _ _ (sm1.trans sm2) ?_
              rw [hf rfl]
              rfl
          refine ⟨_, rfl, rfl, _, rfl, ?_⟩
          rw [show decide (V.str k = V.str (Str.ofString "in")) = decide (k = sIn) from eq_str _ _]
          refine ite2 (fun c => ?_) (fun c => ?_)
          · have ck : k = sIn := of_decide_eq_true c
            refine ⟨_, rfl, v2, y, rfl, .dat h2, _, rfl, ?_⟩
            cases y with
            | int j =>
              cases h2
              refine iteT ⟨_, rfl, j, 1, rfl, rfl, ?_⟩
              refine fin _ _ (Same.refl _) (fun hb => ⟨.inl j, rfl, ?_⟩) fun hb => ?_
              · unfold ofKey
                rw [if_pos ck]
                exact if_pos (of_decide_eq_true hb)
              · unfold ofKey
                rw [if_pos ck]
                exact if_neg (of_decide_eq_false hb)
            | _ =>
              refine iteF (fin _ _ (Same.refl _) (fun hb => by cases hb) fun _ => ?_)
              unfold ofKey
              rw [if_pos ck]
          · have ck : ¬ k = sIn := fun z => c (decide_eq_true z)
            refine ⟨_, rfl, v2, y, rfl, .dat h2, shp.2, fun H2 sm2 => ?_⟩
            refine fin _ _ sm2 (fun hb => ?_) fun hb => ?_
            · cases y with
              | str s =>
                cases h2
                refine ⟨.inr s, rfl, ?_⟩
                unfold ofKey
                rw [if_neg ck]
                exact if_pos hb
              | _ => cases hb
            · cases y with
              | str s =>
                unfold ofKey
                rw [if_neg ck]
                exact if_neg (by intro z; rw [show isNm (.str s) = isNmS s from rfl, z] at hb; cases hb)
              | _ =>
                unfold ofKey
                rw [if_neg ck]
      | _ => exact iteT (q _ _ sm1 (by rw [er _ rfl]; rfl))
end
end DR

namespace DR
open PySem PySem.Spec PyProof.Rows L2
abbrev sOrderOf : Stmt := topS 14
theorem body_order : ∃ p1 p2 p3 p4 p5 p6 p7 p8 p9 p10 p11 k1 k2 k3, defBody sOrderOf = [.Return (some (.Tuple [.Subscript (.Name "RANKS" p1) (.Subscript (.Name "unknown" p2) (.Constant (.int 0) k1 p3) p4) p5, .Subscript (.Name "unknown" p6) (.Constant (.int 1) k2 p7) p8] k3 p9)) p10] ∧ p11 = p10 := ⟨_, _, _, _, _, _, _, _, _, _, _, _, _, _, rfl, rfl⟩
/-- what an unknown is to the sort -/
def keyD (u : List Key) : PyData := match u with
  | [.inr k, .inr s] => .tuple [.int ((rank k).getD 0), .str s]
  | [.inr k, .inl i] => .tuple [.int ((rank k).getD 0), .int i]
  | _ => .none
/-- the value of an unknown at a -/
def UnkH (h : Heap) (v : Value) (u : List Key) : Prop := ∃ a k o v1 v2, v = .ref a ∧ u = [.inr k, o] ∧ (rank k).isSome = true ∧ IsTup h a #[v1, v2] ∧ RelV (.str k) v1 ∧ RelV (kV o) v2
section
variable {P : Program} {w : World} {A : Around} {E : Value → Shared → Prop} {s : Shared} {K : PySem.W.Frag} {mg : Str → Option Value}
theorem order_pure {f d0 : Addr} {fd : FuncData} (F : Fun K "order_of" "order_of" sOrderOf f fd) (R : Ranks K w mg d0) (X : K.In s.heap) (G : s.heap.Ns mainGlobals mg) (hlim : s.heap.NoLimit) (hroom : A.depth < recursionLimit)
    {v : Value} {u : List Key} (hu : UnkH s.heap v u) : wpAny (model P w) A (call (.ref f) [v]) (PySem.W.KeyPure (keyD u) s) E s := by
  obtain ⟨oc, od, kV', doc, pm, an, cdv, ct, osl, rfl, lk, hcd⟩ := F.ex
  obtain ⟨a, k, o, v1, v2, rfl, rfl, hk, ht, r1, r2⟩ := hu
  obtain ⟨es, n, kd⟩ := R.kd
  obtain ⟨t1, rfl⟩ := r1
  obtain ⟨i, hi⟩ := Option.isSome_iff_exists.mp hk
  obtain ⟨t2, hns⟩ := R.has k i hi
  refine wpAny_call (Att.call_fn (binds := [("unknown", .ref a)]) X hlim lk hcd hroom (.of_eq rfl) (by first | rfl | decide | with_unfolding_all rfl) (fun s₁ IC => ?_) rfl rfl rfl)
  obtain ⟨h₁, tk₁, rfl⟩ := IC.toInCall.same
  have kp : ∀ b o, s.heap.get? b = some o → h₁.get? b = some o := IC.toInCall.keep
  have hn := IC.toInCall.ns
  have X₁ : K.In h₁ := X.keeps kp
  obtain ⟨p1, p2, p3, p4, p5, p6, p7, p8, p9, p10, p11, k1, k2, k3, hb, _⟩ := body_order
  rw [hb]
  refine wpAny_execs_cons (wpAny_Return_some (wpAny_Tuple_spliced ?_))
  have ld : ∀ {Q : Value → Shared → Prop} {E' : Value → Shared → Prop} {s' : Shared} {pos : Pos}, s'.heap.Ns s.heap.objs.size (bindL (envOfC "order_of" (defScope sOrderOf) s.heap.objs.size f cdv).kindOf [("unknown", .ref a)] fun _ => none) → Q (.ref a) s' →
      wpAny (model P w) (A.deeper (envOfC "order_of" (defScope sOrderOf) s.heap.objs.size f cdv)) (eval (.Name "unknown" pos) (envOfC "order_of" (defScope sOrderOf) s.heap.objs.size f cdv)) Q E' s' := fun hn h => wpAny_Name (wpAny_loadName_local rfl rfl hn (by first | rfl | with_unfolding_all rfl) h) (by decide)
  have lg : ∀ {Q : Value → Shared → Prop} {E' : Value → Shared → Prop} {s' : Shared} {pos : Pos}, s'.heap.Ns mainGlobals mg → Q (.ref d0) s' →
      wpAny (model P w) (A.deeper (envOfC "order_of" (defScope sOrderOf) s.heap.objs.size f cdv)) (eval (.Name "RANKS" pos) (envOfC "order_of" (defScope sOrderOf) s.heap.objs.size f cdv)) Q E' s' := fun hn h => Calls.Name_function_global rfl rfl (Calls.loadGlobal_global hn R.g h) (by decide)
  have G₁ : h₁.Ns mainGlobals mg := G.keeps kp
  have T₁ : IsTup h₁ a #[.str k t1, v2] := by
    obtain ⟨ot, g1, g2, g3, g4⟩ := ht
    exact ⟨ot, kp _ _ g1, g2, g3, g4⟩
  refine Calls.spliced_cons (PyProof.Rows.Subscript_ (lg G₁ (PyProof.Rows.Subscript_ (ld hn (wpAny_Constant_int (PyProof.Rows.item_tuple (j := 0) (x := .str k t1) T₁ (by decide) (by decide) rfl rfl ?_))))))
  have hm := PySem.W.mapOf_K (prog := P) (w := w) (h := h₁) X₁ kd.at_ kd.lit
  refine tail_any hm.typeIs slot_dict_getitem.lookup (wpAny_getItem_of (strKind_is P w k t1) hm (PySem.W.find_K kd.at_ hns) ?_) (by with_unfolding_all rfl)
  refine Calls.spliced_cons (PyProof.Rows.Subscript_ (ld hn (wpAny_Constant_int (PyProof.Rows.item_tuple (j := 1) (x := v2) T₁ (by decide) (by decide) rfl rfl ?_))))
  refine Calls.spliced_nil ⟨by show 2 ≤ sizeLine; decide, ?_⟩
  have push : ∀ b o, s.heap.get? b = some o → (h₁.push { cls := .type "tuple", data := .seq ([Value.int i t2, v2] : List Value).toArray }).get? b = some o := fun b o e => Heap.get?_push_of_some _ (kp b o e)
  have rd : ∀ (d : PyData), Reads (h₁.push { cls := .type "tuple", data := .seq ([Value.int i t2, v2] : List Value).toArray }) v2 d [] → Reads (h₁.push { cls := .type "tuple", data := .seq ([Value.int i t2, v2] : List Value).toArray }) (.ref h₁.objs.size) (.tuple [.int i, d]) [] := fun d hd =>
    .tuple (as := [] ++ ([] ++ [])) (Heap.get?_push_size _ rfl) rfl rfl (.cons (.int i t2) (.cons hd .nil))
  refine ⟨_, _, rfl, push, ?_⟩
  cases o with
  | inl j =>
    obtain ⟨t, rfl⟩ := r2
    show Reads _ _ (.tuple [.int ((rank k).getD 0), .int j]) []
    rw [hi]
    exact rd _ (.int j t)
  | inr z =>
    obtain ⟨t, rfl⟩ := r2
    show Reads _ _ (.tuple [.int ((rank k).getD 0), .str z]) []
    rw [hi]
    exact rd _ (.str z t)
end
end DR

namespace DR
open PySem PySem.Spec PyProof.Rows L2
/-- an unknown: of a kind, with a number where the kind is "in" -/
def NmU (u : List Key) : Prop := ∃ k o, u = [.inr k, o] ∧ (rank k).isSome = true ∧ ((∃ i, o = .inl i) ↔ k = sIn)
/-- an unknown at a value -/
def UnkAt (H : Hp) (y : V) (u : List Key) : Prop := ∃ a, y = .ref a ∧ H a = some (.tup (u.map kV))
def le2 : List Key → List Key → Bool := PySem.W.dataLe false keyD
/-- what stands behind the kind -/
def kD : Key → PyData
  | .inl i => .int i
  | .inr s => .str s
theorem keyD_is (k : Str) (o : Key) : keyD [.inr k, o] = .tuple [.int ((rank k).getD 0), kD o] := by
  cases o <;> rfl
theorem keyD_nm {u : List Key} (h : NmU u) : ∃ i z, keyD u = .tuple [.int i, kD z] := by
  obtain ⟨k, o, rfl, _⟩ := h
  exact ⟨_, o, keyD_is k o⟩
theorem rank_inj {k k' : Str} (h : (rank k).isSome = true) (h' : (rank k').isSome = true) (e : (rank k).getD 0 = (rank k').getD 0) : k = k' := by
  revert e h h'
  unfold rank
  by_cases c : k = sPiece
  · rw [if_pos c]
    by_cases c' : k' = sPiece
    · exact fun _ _ _ => c.trans c'.symm
    · rw [if_neg c']
      by_cases d' : k' = sName
      · rw [if_pos d']
        exact fun _ _ e => absurd e (by decide)
      · rw [if_neg d']
        by_cases e' : k' = sIn
        · rw [if_pos e']
          exact fun _ _ e => absurd e (by decide)
        · rw [if_neg e']
          exact fun _ z _ => absurd z (by decide)
  · rw [if_neg c]
    by_cases d : k = sName
    · rw [if_pos d]
      by_cases c' : k' = sPiece
      · rw [if_pos c']
        exact fun _ _ e => absurd e (by decide)
      · rw [if_neg c']
        by_cases d' : k' = sName
        · exact fun _ _ _ => d.trans d'.symm
        · rw [if_neg d']
          by_cases e' : k' = sIn
          · rw [if_pos e']
            exact fun _ _ e => absurd e (by decide)
          · rw [if_neg e']
            exact fun _ z _ => absurd z (by decide)
    · rw [if_neg d]
      by_cases e0 : k = sIn
      · rw [if_pos e0]
        by_cases c' : k' = sPiece
        · rw [if_pos c']
          exact fun _ _ e => absurd e (by decide)
        · rw [if_neg c']
          by_cases d' : k' = sName
          · rw [if_pos d']
            exact fun _ _ e => absurd e (by decide)
          · rw [if_neg d']
            by_cases e' : k' = sIn
            · exact fun _ _ _ => e0.trans e'.symm
            · rw [if_neg e']
              exact fun _ z _ => absurd z (by decide)
      · rw [if_neg e0]
        exact fun z _ _ => absurd z (by decide)
theorem same_key {k k' : Str} {o o' : Key} (h : (∃ i, o = .inl i) ↔ k = sIn) (h' : (∃ i, o' = .inl i) ↔ k' = sIn) (e : k = k') : PySem.W.alike (kD o) (kD o') = true := by
  subst e
  cases o with
  | inl i =>
    obtain ⟨j, rfl⟩ := h'.mpr (h.mp ⟨i, rfl⟩)
    rfl
  | inr s =>
    cases o' with
    | inl j =>
      obtain ⟨i, z⟩ := h.mpr (h'.mp ⟨j, rfl⟩)
      cases z
    | inr s' => rfl
theorem alike_kD (o : Key) : PySem.W.alike (kD o) (kD o) = true := by cases o <;> rfl
theorem lay_kD (o : Key) : (kD o).plain = true := by cases o <;> rfl
theorem cmp_key {u u' : List Key} (h : NmU u) (h' : NmU u') {xs ys : List PyData} (e : keyD u = .tuple xs) (e' : keyD u' = .tuple ys) : cmpL alikeP xs ys := by
  obtain ⟨k, o, rfl, h1, h2⟩ := h
  obtain ⟨k', o', rfl, h1', h2'⟩ := h'
  rw [keyD_is] at e e'
  obtain rfl := PyData.tuple.inj e
  obtain rfl := PyData.tuple.inj e'
  refine ⟨rfl, fun z => ⟨same_key h2 h2' (rank_inj h1 h1' ?_), fun _ => trivial⟩⟩
  exact of_decide_eq_true (show decide ((rank k).getD 0 = (rank k').getD 0) = true by simpa [PyData.eqv] using z)
theorem cmp_R1 : ∀ {xs ys : List PyData}, cmpL alikeP xs ys → cmpL R1 xs ys
  | _ :: _, _ :: _, h => ⟨.inl h.1, fun e => cmp_R1 (h.2 e)⟩
  | [], _, _ => by unfold cmpL; trivial
  | _ :: _, [], _ => by unfold cmpL; trivial
theorem mix_nm {us : List (List Key)} (h : ∀ u ∈ us, NmU u) : Mix (us.map keyD) (.type "int") := by
  refine ⟨fun d hd => ?_, fun xs ys hx hy => ?_, fun d hd => ?_⟩
  · obtain ⟨u, hu, rfl⟩ := List.mem_map.mp hd
    obtain ⟨i, z, e⟩ := keyD_nm (h u hu)
    exact ⟨_, _, e, rfl⟩
  · obtain ⟨u, hu, e⟩ := List.mem_map.mp hx
    obtain ⟨u', hu', e'⟩ := List.mem_map.mp hy
    exact cmp_R1 (cmp_key (h u hu) (h u' hu') e e')
  · obtain ⟨u, hu, rfl⟩ := List.mem_map.mp hd
    obtain ⟨i, z, e⟩ := keyD_nm (h u hu)
    rw [e]
    have := lay_kD z
    simp [PyData.plain, PyData.plainAll, this]
theorem self_nm {us : List (List Key)} (h : ∀ u ∈ us, NmU u) : ∀ d ∈ us.map keyD, PySem.W.alike d d = true := fun d hd => by
  obtain ⟨u, hu, rfl⟩ := List.mem_map.mp hd
  obtain ⟨i, z, e⟩ := keyD_nm (h u hu)
  rw [e]
  have := alike_kD z
  simp [PySem.W.alike, PySem.W.alikeAll, this]
/-- sorted(xs, key=order_of), the items unknowns by names -/
def rSortedUnk (K : PySem.W.Frag) (f : Addr) : List V → List V → Hp → VK → Prop := fun vs zs H Q => ∃ (a : Addr) (xs : List V) (us : List (List Key)), vs = [.ref a] ∧ zs = [.ref f] ∧ SqL K H a xs ∧ PySem.W.EachIs (UnkAt H) xs us ∧ (∀ u ∈ us, NmU u) ∧
  ∀ (ys : List V) (p : Addr), PySem.W.EachIs (UnkAt H) ys (us.mergeSort le2) → H p = none → Q (.ref p) (upd H p (.lst ys))
theorem unkH_of {X : Cx} {pins : List (Addr × Obj)} {σ : L2.St} {H : Hp} {s : Shared} (I : Inv X pins σ H s) {y : V} {v : Value} {u : List Key} (r : L2.RelV y v) (h : UnkAt H y u) (n : NmU u) : UnkH s.heap v u := by
  obtain ⟨a, rfl, ha⟩ := h
  obtain ⟨k, z, rfl, hk, _⟩ := n
  cases r
  obtain ⟨_, its, rv, o, h1, h2, m, h3⟩ := (show ObjOk X.prog X.w H s.heap a (.tup [V.str k, kV z]) from I.hok a _ ha)
  cases rv with
  | cons r1 rv => cases rv with
    | cons r2 rv =>
      cases rv
      rename_i w1 w2
      exact ⟨a, k, z, w1, w2, rfl, rfl, hk, ⟨o, h1, h2, m, h3⟩, r1, r2⟩
theorem unkH_keeps {h h' : Heap} {v : Value} {u : List Key} (k : ∀ b o, h.get? b = some o → h'.get? b = some o) (x : UnkH h v u) : UnkH h' v u := by
  obtain ⟨a, k1, o, v1, v2, e1, e2, hk, ⟨ot, g1, g2, g3⟩, r1, r2⟩ := x
  exact ⟨a, k1, o, v1, v2, e1, e2, hk, ⟨ot, k _ _ g1, g2, g3⟩, r1, r2⟩
theorem each_vals {H : Hp} : ∀ {xs : List V} {its : List Value} {us : List (List Key)}, PySem.W.EachIs (UnkAt H) xs us → Vals xs its → PySem.W.EachIs (fun v u => ∃ y, L2.RelV y v ∧ UnkAt H y u) its us
  | _, _, _, .nil, .nil => .nil
  | _, _, _, .cons h t, .cons r rt => .cons ⟨_, r, h⟩ (each_vals t rt)
theorem each_back {H : Hp} : ∀ {its : List Value} {us : List (List Key)}, PySem.W.EachIs (fun v u => ∃ y, L2.RelV y v ∧ UnkAt H y u) its us → ∃ ys, Vals ys its ∧ PySem.W.EachIs (UnkAt H) ys us
  | _, _, .nil => ⟨[], .nil, .nil⟩
  | _, _, .cons ⟨y, r, h⟩ t => by
    obtain ⟨ys, r1, h1⟩ := each_back t
    exact ⟨y :: ys, .cons r r1, .cons h h1⟩
theorem cr_sortedUnk {X : Cx} {k : Nat} {f d0 : Addr} {fd : FuncData} (hr : Room k X.A) (F : Fun X.K "order_of" "order_of" sOrderOf f fd) (R : Ranks X.K X.w X.mg d0) : CallRK X (.builtin "sorted") [Str.ofString "key"] (rSortedUnk X.K f) := by
  intro pins s σ H vs zs us' ws Q I r rz h
  obtain ⟨a, xs, us, rfl, rfl, hs, he, hn, q⟩ := h
  obtain rfl := Vals.ref1 r
  obtain ⟨w1, rfl, e1⟩ := vals1 rz
  obtain rfl : w1 = Value.ref f := e1
  obtain ⟨its, rv, hl, hz⟩ := I.list hs
  have hu := each_vals he rv
  have hlen : us.length ≤ sizeLine := by
    rw [← he.length]
    exact hz
  refine sorted_key_mix (bs := us) (R := fun v u => ∃ y, L2.RelV y v ∧ UnkAt H y u) (f := .ref f) keyD hl.isList hu (self_nm hn) (mix_nm hn) (by decide) hlen (fun u hu => ?_) (ksk_s1 _ _) (fun _ => ksk_l1 _ _) (fun x => ksk_t1 f x) (fun v u hR hu h tk kp => ?_) fun out c h' tk kp hf hg hol ho => ?_
  · obtain ⟨i, z, e⟩ := keyD_nm (hn u hu)
    have hd : (keyD u).depth ≤ 5 := by
      rw [e]
      have z0 : (kD z).depth = 0 := by cases z <;> simp [kD, PyData.depth]
      simp [PyData.depth, PyData.depthAll, z0]
    have := hr.units
    omega
  · obtain ⟨y, ry, hy⟩ := hR
    have hd : X.A.in1.in1.depth < recursionLimit := hr.depth
    exact order_pure (s := { s with heap := h, toks := tk }) F R (I.kIn.keeps kp) ((I.mod.glob.keeps I.bk).keeps kp) (I.nolimit.keeps kp) hd (unkH_keeps kp (unkH_of I ry hy (hn u hu)))
  · obtain ⟨ys, rv', hy⟩ := each_back ho
    have hlen' : ys.length ≤ sizeLine := by
      rw [rv'.length, hol]
      exact hlen
    exact ⟨.ref (s.heap.objs.size + 1), upd H (s.heap.objs.size + 1) (.lst ys), I.laid (t' := tk) kp (Nat.le_succ _) ⟨hlen', out, c, rv', hg⟩, rfl, q ys _ hy (I.hok.fresh (Nat.le_succ _))⟩
end DR

namespace DR
open PySem PySem.Spec PyProof.Rows L2
/-! ### sums -/
def keyDat : Key → PyData
  | .inl i => .int i
  | .inr s => .str s
def unkD (u : List Key) : PyData := .tuple (u.map keyDat)
def partD (p : List Key × Int) : PyData := .tuple [unkD p.1, .int p.2]
def sumD (n : Int) (ps : List (List Key × Int)) : PyData := .tuple [.int n, .tuple (ps.map partD)]
abbrev Mul := List (List Key × Int)
def vKv (kvs : Mul) : List (List Key × V) := kvs.map fun p => (p.1, V.int p.2)
def getI (kvs : Mul) (u : List Key) : Int := ((kvs.find? fun kv => decide (kv.1 = u)).map (·.2)).getD 0
def keysN (kvs : Mul) : List (List Key) := (kvs.map (·.1)).filter fun u => !decide (getI kvs u = 0)
def form (kvs : Mul) : Mul := ((keysN kvs).mergeSort le2).map fun u => (u, getI kvs u)
theorem valV_kv (kvs : Mul) (u : List Key) : valV (vKv kvs) u = (kvs.find? fun kv => decide (kv.1 = u)).map fun kv => V.int kv.2 := by
  unfold valV vKv
  rw [List.find?_map]
  simp [Function.comp_def]
theorem valV_mem {kvs : Mul} {u : List Key} (h : u ∈ kvs.map (·.1)) : valV (vKv kvs) u = some (.int (getI kvs u)) := by
  rw [valV_kv]
  unfold getI
  cases e : kvs.find? fun kv => decide (kv.1 = u) with
  | some p => rfl
  | none =>
    obtain ⟨p, hp, rfl⟩ := List.mem_map.mp h
    have z := List.find?_eq_none.mp e p hp
    simp at z
theorem dp_key {K : PySem.W.Frag} {H : Hp} (k : Key) : Dp K H (kV k) (keyDat k) := by
  cases k with
  | inl i => exact .int i
  | inr s => exact .str s
theorem dps_keys {K : PySem.W.Frag} {H : Hp} : ∀ u : List Key, DpAll K H (u.map kV) (u.map keyDat)
  | [] => .nil
  | k :: u => .cons (dp_key k) (dps_keys u)
theorem dp_unk {K : PySem.W.Frag} {H : Hp} {y : V} {u : List Key} (h : UnkAt H y u) : Dp K H y (unkD u) := by
  obtain ⟨a, rfl, ha⟩ := h
  exact .tup (SqT.of ha) (dps_keys u)
theorem unkAt_same {H H' : Hp} (e : Same H H') {y : V} {u : List Key} (h : UnkAt H y u) : UnkAt H' y u := by
  obtain ⟨a, rfl, ha⟩ := h
  exact ⟨a, rfl, e _ _ ha⟩
theorem each_same {H H' : Hp} (e : Same H H') : ∀ {ys : List V} {us : List (List Key)}, PySem.W.EachIs (UnkAt H) ys us → PySem.W.EachIs (UnkAt H') ys us
  | _, _, .nil => .nil
  | _, _, .cons h t => .cons (unkAt_same e h) (each_same e t)
theorem each_get {H : Hp} : ∀ {ys : List V} {us : List (List Key)}, PySem.W.EachIs (UnkAt H) ys us → ∀ {i : Nat} {y : V}, ys[i]? = some y → ∃ u, us[i]? = some u ∧ UnkAt H y u
  | _, _, .nil, i, y, h => by simp at h
  | _, _, .cons h t, 0, y, e => by
    obtain rfl : _ = y := Option.some.inj e
    exact ⟨_, rfl, h⟩
  | _, _, .cons h t, i + 1, y, e => each_get t (i := i) e
theorem each_snoc {H : Hp} {y : V} {u : List Key} (h : UnkAt H y u) : ∀ {ys : List V} {us : List (List Key)}, PySem.W.EachIs (UnkAt H) ys us → PySem.W.EachIs (UnkAt H) (ys ++ [y]) (us ++ [u])
  | _, _, .nil => .cons h .nil
  | _, _, .cons g t => .cons g (each_snoc h t)
theorem dps_snoc {K : PySem.W.Frag} {H : Hp} {y : V} {d : PyData} (h : Dp K H y d) : ∀ {ys : List V} {ds : List PyData}, DpAll K H ys ds → DpAll K H (ys ++ [y]) (ds ++ [d])
  | _, _, .nil => .cons h .nil
  | _, _, .cons g t => .cons g (dps_snoc h t)
/-- tuples stay -/
def TupS (H H' : Hp) : Prop := ∀ a xs, H a = some (.tup xs) → H' a = some (.tup xs)
theorem TupS.of {H H' : Hp} (e : Same H H') : TupS H H' := fun _ _ h => e _ _ h
theorem TupS.trans {H H' H2 : Hp} (e : TupS H H') (f : TupS H' H2) : TupS H H2 := fun a xs h => f a xs (e a xs h)
theorem TupS.refl (H : Hp) : TupS H H := fun _ _ h => h
theorem TupS.put {H : Hp} {S : Addr} {o o' : HO} (hS : H S = some o) (ho : ∀ xs, o ≠ .tup xs) : TupS H (upd H S o') := fun a xs h => by
  have ne : a ≠ S := fun z => by
    rw [z, hS] at h
    exact ho xs (Option.some.inj h)
  rw [upd_ne ne]
  exact h
theorem eachs_snoc {α β : Type} {R : α → β → Prop} {y : α} {u : β} (h : R y u) : ∀ {ys : List α} {us : List β}, PySem.W.EachIs R ys us → PySem.W.EachIs R (ys ++ [y]) (us ++ [u])
  | _, _, .nil => .cons h .nil
  | _, _, .cons g t => .cons g (eachs_snoc h t)
theorem eachs_imp {α β : Type} {R S : α → β → Prop} (f : ∀ a b, R a b → S a b) : ∀ {as : List α} {bs : List β}, PySem.W.EachIs R as bs → PySem.W.EachIs S as bs
  | _, _, .nil => .nil
  | _, _, .cons h t => .cons (f _ _ h) (eachs_imp f t)
theorem eachs_get {α β : Type} {R : α → β → Prop} : ∀ {ys : List α} {us : List β}, PySem.W.EachIs R ys us → ∀ {i : Nat} {y : α}, ys[i]? = some y → ∃ u, us[i]? = some u ∧ R y u
  | _, _, .nil, i, y, h => by simp at h
  | _, _, .cons h t, 0, y, e => by
    obtain rfl : _ = y := Option.some.inj e
    exact ⟨_, rfl, h⟩
  | _, _, .cons h t, i + 1, y, e => eachs_get t (i := i) e
/-- a part of a sum, a sum: all of tuples -/
def PartT (H : Hp) (v : V) (q : List Key × Int) : Prop := ∃ c e, v = .ref c ∧ H c = some (.tup [.ref e, .int q.2]) ∧ H e = some (.tup (q.1.map kV))
def SumT (H : Hp) (v : V) (n : Int) (ps : Mul) : Prop := ∃ a b xs, v = .ref a ∧ H a = some (.tup [.int n, .ref b]) ∧ H b = some (.tup xs) ∧ PySem.W.EachIs (PartT H) xs ps
theorem partT_s {H H' : Hp} (e : TupS H H') {v : V} {q : List Key × Int} (h : PartT H v q) : PartT H' v q := by
  obtain ⟨c, k, h1, h2, h3⟩ := h
  exact ⟨c, k, h1, e _ _ h2, e _ _ h3⟩
theorem sumT_s {H H' : Hp} (e : TupS H H') {v : V} {n : Int} {ps : Mul} (h : SumT H v n ps) : SumT H' v n ps := by
  obtain ⟨a, b, xs, h1, h2, h3, h4⟩ := h
  exact ⟨a, b, xs, h1, e _ _ h2, e _ _ h3, eachs_imp (fun _ _ => partT_s e) h4⟩
theorem parts_dp {K : PySem.W.Frag} {H : Hp} : ∀ {xs : List V} {ps : Mul}, PySem.W.EachIs (PartT H) xs ps → DpAll K H xs (ps.map partD)
  | _, _, .nil => .nil
  | _, _, .cons h t => by
    obtain ⟨c, e, rfl, h2, h3⟩ := h
    exact .cons (.tup (SqT.of h2) (.cons (dp_unk ⟨e, rfl, h3⟩) (.cons (.int _) .nil))) (parts_dp t)
theorem sumT_dp {K : PySem.W.Frag} {H : Hp} {v : V} {n : Int} {ps : Mul} (h : SumT H v n ps) : Dp K H v (sumD n ps) := by
  obtain ⟨a, b, xs, rfl, h2, h3, h4⟩ := h
  exact .tup (SqT.of h2) (.cons (.int n) (.cons (.tup (SqT.of h3) (parts_dp h4)) .nil))
def spOneForm (K : PySem.W.Frag) : Sp := fun vs H Q _ => ∃ (n : Int) (d : Addr) (kvs : Mul), vs = [.int n, .ref d] ∧ H d = some (.dT (vKv kvs)) ∧ (∀ u ∈ kvs.map (·.1), NmU u) ∧ kvs.length ≤ 1000 ∧
  ∀ v H', Same H H' → SumT H' v n (form kvs) → Q v H'
/-- a heap without the object at D -/
def wo (H : Hp) (D : Addr) : Hp := fun b => if b = D then none else H b
theorem wo_ne {H : Hp} {D b : Addr} (h : b ≠ D) : wo H D b = H b := if_neg h
theorem wo_same {H : Hp} {D : Addr} : Same (wo H D) H := fun b o e => by
  by_cases h : b = D
  · rw [h] at e
    unfold wo at e
    rw [if_pos rfl] at e
    cases e
  · rw [wo_ne h] at e
    exact e
theorem wo_self {H : Hp} {D : Addr} {o : HO} : wo (upd H D o) D = wo H D := by
  funext b
  by_cases h : b = D
  · unfold wo
    rw [if_pos h, if_pos h]
  · rw [wo_ne h, wo_ne h, upd_ne h]
theorem wo_new {H : Hp} {D T : Addr} {o : HO} (hT : H T = none) (h : T ≠ D) : Same (wo H D) (wo (upd H T o) D) := fun b x e => by
  have e2 : H b = some x := wo_same b x e
  have hb : b ≠ D := fun z => by
    rw [z] at e
    unfold wo at e
    rw [if_pos rfl] at e
    cases e
  rw [wo_ne hb, upd_ne (ne_of_none e2 hT)]
  exact e2
abbrev sOneForm : Stmt := topS 15
theorem scOneForm : FnScope ["number", "multiples", "held", "unknown"] ["number", "multiples"] (defScope sOneForm) := ⟨rfl, rfl, rfl, by decide +kernel, rfl, by decide +kernel, by decide +kernel⟩
theorem sz1000 {n : Nat} (h : n ≤ 1000) : n ≤ sizeLine := Nat.le_of_lt (small1000 h)
theorem unkAt_upd {H : Hp} {D : Addr} {l : List V} {o : HO} (hD : H D = some (.lst l)) {y : V} {u : List Key} (h : UnkAt H y u) : UnkAt (upd H D o) y u := by
  obtain ⟨a, rfl, ha⟩ := h
  refine ⟨a, rfl, ?_⟩
  rw [upd_ne (ne_of ha hD (by intro z; cases z))]
  exact ha
theorem each_upd {H : Hp} {D : Addr} {l : List V} {o : HO} (hD : H D = some (.lst l)) : ∀ {ys : List V} {us : List (List Key)}, PySem.W.EachIs (UnkAt H) ys us → PySem.W.EachIs (UnkAt (upd H D o)) ys us
  | _, _, .nil => .nil
  | _, _, .cons h t => .cons (unkAt_upd hD h) (each_upd hD t)
theorem each_len {H : Hp} {ys : List V} {us : List (List Key)} (h : PySem.W.EachIs (UnkAt H) ys us) : ys.length = us.length := h.length
theorem mem_sort {us : List (List Key)} {u : List Key} (h : u ∈ us.mergeSort le2) : u ∈ us := (List.mergeSort_perm us le2).mem_iff.mp h
section
variable {P : Program} {w : World} {K : PySem.W.Frag} {mg : Str → Option Value} {base : Heap}
theorem ok_oneForm {f fO d0 : Addr} {fd fdO : FuncData} (F : Fun K "one_form" "one_form" sOneForm f fd) (T : Bi mg) (R : Ranks K w mg d0) (FO : Fun K "order_of" "order_of" sOrderOf fO fdO) (gO : mg "order_of" = some (.ref fO)) :
    FnOk P w K mg base CX0 2 f fd ["number", "multiples"] (spOneForm K) := by
  refine F.ok scOneForm (fun vs H Q E h => ?_) (fun cdv A outer s H vs Q E hr h => ?_)
  · obtain ⟨n, d, kvs, rfl, _⟩ := h
    rfl
  · obtain ⟨n, d, kvs, rfl, hd, hn, hl, q⟩ := h
    have hu := hu_of hr
    refine ⟨_, pss_cons (ps_set (i := 2) scOneForm.nd rfl (.inl rfl) (pe_callBK (cr_sortedUnk hr FO R) (by rfl) T.sorted (by decide +kernel) (pa_cons (pe_lock (pe_lc (own := [("unknown", 3)]) (g := gName 3) (tt := _) rfl scOneForm.nd (pi_keys (pv 1)) (blkOk_by (N := ["number", "multiples", "held", "unknown"]) (sc := defScope sOneForm) (by decide +kernel)) (fun _ _ _ _ _ => pg_name (i := 3) scOneForm.nd rfl (.inl rfl)) (fun _ _ _ _ _ => pts_one (pt_cmpR op_ne (pe_dget hu (pv 1) (pv 3) (fun _ _ => rfl)) pe_int (nomark _))) (fun _ _ _ _ _ => (pv 3)))) pa_nil) (pk_cons (pe_glob (v := .ref fO) rfl gO rfl) pk_nil)))
      (pss_one (ps_ret (pe_tup (pa_cons (pv 0) (pa_cons (pe_callTy call_tuple_of (by rfl) T.tuple (by decide +kernel) (pa_cons (pe_lc (own := [("unknown", 3)]) (g := gName 3) (tt := tYes) rfl scOneForm.nd (pi_list (pv 2)) (blkOk_by (N := ["number", "multiples", "held", "unknown"]) (sc := defScope sOneForm) (by decide +kernel)) (fun _ _ _ _ _ => pg_name (i := 3) scOneForm.nd rfl (.inl rfl)) (fun _ _ _ _ _ => pts_nil) (fun _ _ _ _ _ => (pe_tup (pa_cons (pv 3) (pa_cons (pe_dget hu (pv 1) (pv 3) (fun _ _ => rfl)) pa_nil))))) pa_nil)) pa_nil))))), ?_⟩
    refine ⟨d, _, hd, trivial, fun od => ⟨_, rfl, d, od, rfl, .inr ⟨_, upd_same, fun D hD => ?_⟩⟩⟩
    have lenK : (vKv kvs).length = kvs.length := List.length_map _
    have hDd : D ≠ d := by
      intro z
      rw [z, upd_same] at hD
      cases hD
    have hDn : H D = none := by
      rw [upd_ne hDd] at hD
      exact hD
    refine lc_it walk_keysT (fun i H1 => (∀ b o, b ≠ D → upd H d (.frz od (.dT (vKv kvs))) b = some o → H1 b = some o) ∧ ∃ ys, H1 D = some (.lst ys) ∧ ys.length ≤ i ∧ PySem.W.EachIs (UnkAt H1) ys (((kvs.take i).map (·.1)).filter fun u => !decide (getI kvs u = 0)))
      ⟨fun b o hb e => by rw [upd_ne hb]; exact e, [], upd_same, Nat.le_refl _, .nil⟩ (fun i H1 _ ⟨kp, _⟩ => kp _ _ hDd.symm upd_same) ?_ ?_
    · rintro i x H1 H1' hi ⟨kp, ys, hD1, hlen, he⟩ ⟨rfl, k, v, qa, hk, rfl, hq⟩
      have hi' : i < kvs.length := by rw [lenK] at hi; exact hi
      obtain ⟨⟨k0, m⟩, hm⟩ : ∃ p, kvs[i]? = some p := ⟨kvs[i], List.getElem?_eq_getElem hi'⟩
      have hk2 : (k, v) = (k0, V.int m) := by
        unfold vKv at hk
        rw [List.getElem?_map, hm] at hk
        exact (Option.some.inj hk).symm
      cases hk2
      have hmem : k ∈ kvs.map (·.1) := List.mem_map.mpr ⟨_, List.mem_of_getElem? hm, rfl⟩
      have hd1 : H1' d = some (.frz od (.dT (vKv kvs))) := kp _ _ hDd.symm upd_same
      have qD : qa ≠ D := ne_of hq hD1 (by intro z; cases z)
      have hqH : UnkAt H1' (.ref qa) k := ⟨qa, rfl, hq⟩
      refine ⟨rfl, _, rfl, _, rfl, d, .int (getI kvs k), rfl, .inr ⟨vKv kvs, k, qa, .inr ⟨od, hd1⟩, rfl, hq, (valV_mem hmem).symm⟩, rfl, _, rfl, ?_⟩
      rw [eq_int]
      have tk : (kvs.take (i + 1)).map (·.1) = (kvs.take i).map (·.1) ++ [k] := by
        rw [List.take_add_one, hm]
        simp
      cases c : !decide (getI kvs k = 0) with
      | true =>
        refine iteT ⟨_, rfl, ys, hD1, small1000 (by omega), fun b o hb e => ?_, ys ++ [.ref qa], upd_same, by simp; omega, ?_⟩
        · rw [upd_ne hb]
          exact kp b o hb e
        · rw [tk, List.filter_append]
          have z : [k].filter (fun u => !decide (getI kvs u = 0)) = [k] := by simp [List.filter, c]
          rw [z]
          exact each_snoc (unkAt_upd hD1 hqH) (each_upd hD1 he)
      | false =>
        refine iteF ⟨kp, ys, hD1, by omega, ?_⟩
        rw [tk, List.filter_append]
        have z : [k].filter (fun u => !decide (getI kvs u = 0)) = [] := by simp [List.filter, c]
        rw [z, List.append_nil]
        exact he
    · rintro H1 ⟨kp, ys, hD1, hlen, he⟩
      have tl : (kvs.take (vKv kvs).length) = kvs := by rw [lenK]; exact List.take_length
      rw [tl] at he
      have hd1 : H1 d = some (.frz od (.dT (vKv kvs))) := kp _ _ hDd.symm upd_same
      have sm : Same H (upd H1 d (.dT (vKv kvs))) := fun b o e => by
        by_cases hb : b = d
        · rw [hb] at e ⊢
          rw [upd_same]
          exact hd.symm.trans e
        · rw [upd_ne hb]
          refine kp b o (ne_of_none e hDn) ?_
          rw [upd_ne hb]
          exact e
      have eD : (upd H1 d (.dT (vKv kvs))) D = some (.lst ys) := by
        rw [upd_ne hDd]
        exact hD1
      have he2 : PySem.W.EachIs (UnkAt (upd H1 d (.dT (vKv kvs)))) ys (keysN kvs) := by
        have go : ∀ {zs : List V} {us : List (List Key)}, PySem.W.EachIs (UnkAt H1) zs us → PySem.W.EachIs (UnkAt (upd H1 d (.dT (vKv kvs)))) zs us := by
          intro zs us h
          induction h with
          | nil => exact .nil
          | cons h t ih =>
            obtain ⟨a, rfl, ha⟩ := h
            refine .cons ⟨a, rfl, ?_⟩ ih
            rw [upd_ne (ne_of ha hd1 (by intro z; cases z))]
            exact ha
        exact go he
      have hnK : ∀ u ∈ keysN kvs, NmU u := fun u hu => hn u (List.mem_filter.mp hu).1
      refine ⟨hd1, D, ys, keysN kvs, rfl, rfl, SqL.of eD, he2, hnK, fun zs p hz hp => ?_⟩
      generalize hH2 : upd H1 d (.dT (vKv kvs)) = H2 at sm eD he2 hp hz ⊢
      have h2d : H2 d = some (.dT (vKv kvs)) := by rw [← hH2, upd_same]
      have sm3 : Same H2 (upd H2 p (.lst zs)) := same_new hp
      have hz3 : PySem.W.EachIs (UnkAt (upd H2 p (.lst zs))) zs ((keysN kvs).mergeSort le2) := each_same sm3 hz
      have lz : zs.length = ((keysN kvs).mergeSort le2).length := hz.length
      have lz2 : zs.length ≤ 1000 := by
        rw [lz, (List.mergeSort_perm _ _).length_eq]
        unfold keysN
        refine Nat.le_trans (List.length_filter_le _ _) ?_
        rw [List.length_map]
        exact hl
      generalize hH3 : upd H2 p (.lst zs) = H3 at sm3 hz3 ⊢
      have h3d : H3 d = some (.dT (vKv kvs)) := sm3 _ _ h2d
      have h3p : H3 p = some (.lst zs) := by rw [← hH3, upd_same]
      refine ⟨_, rfl, _, rfl, p, rfl, ⟨_, SqL.of h3p⟩, fun D2 hD2 => ?_⟩
      have pD2 : p ≠ D2 := ne_of_none h3p hD2
      refine lc_it (walk_list (xs := zs)) (fun i H4 => (∀ b o, b ≠ D2 → H3 b = some o → H4 b = some o) ∧ ∃ ps, H4 D2 = some (.lst ps) ∧ ps.length = i ∧ PySem.W.EachIs (PartT H4) ps ((((keysN kvs).mergeSort le2).take i).map fun u => (u, getI kvs u)))
        ⟨fun b o hb e => by rw [upd_ne hb]; exact e, [], upd_same, rfl, .nil⟩ (fun i H4 _ ⟨kp, _⟩ => SqL.of (kp _ _ pD2 h3p)) ?_ ?_
      · rintro i x H4 H4' hi ⟨kp4, ps, h4D, hps, hdp⟩ ⟨rfl, hx⟩
        obtain ⟨u, hu1, a, rfl, ha⟩ := each_get hz3 hx
        have haD : a ≠ D2 := ne_of_none ha hD2
        have ha4 := kp4 _ _ haD ha
        have h4d := kp4 _ _ (ne_of_none h3d hD2) h3d
        have hmem : u ∈ kvs.map (·.1) := (List.mem_filter.mp (mem_sort (List.mem_of_getElem? hu1))).1
        refine ⟨rfl, yes_go (iteT ⟨_, rfl, _, rfl, _, rfl, d, .int (getI kvs u), rfl, .inr ⟨vKv kvs, u, a, .inl h4d, rfl, ha4, (valV_mem hmem).symm⟩, (by show 2 ≤ sizeLine; decide), fun t ht => ⟨ps, ?_, small1000 (by omega), ?_, ps ++ [.ref t], upd_same, by simp; omega, ?_⟩⟩)⟩
        · rw [upd_ne (ne_of_none h4D ht)]
          exact h4D
        · intro b o hb e
          rw [upd_ne hb, upd_ne (ne_of_none (kp4 b o hb e) ht)]
          exact kp4 b o hb e
        · have tD : t ≠ D2 := fun z => by rw [z, h4D] at ht; cases ht
          have ts : TupS H4' (upd (upd H4' t (.tup [.ref a, .int (getI kvs u)])) D2 (.lst (ps ++ [.ref t]))) := (TupS.of (same_new ht)).trans (TupS.put (o := .lst ps) (by
            rw [upd_ne (ne_of_none h4D ht)]
            exact h4D) (by intro xs z; cases z))
          rw [List.take_add_one, hu1]
          simp only [Option.toList_some, List.map_append, List.map_cons, List.map_nil]
          refine eachs_snoc ⟨t, a, rfl, ?_, ts _ _ ha4⟩ (eachs_imp (fun _ _ => partT_s ts) hdp)
          rw [upd_ne tD, upd_same]
      · rintro H4 ⟨kp4, ps, h4D, hps, hdp⟩
        have tl2 : ((keysN kvs).mergeSort le2).take zs.length = (keysN kvs).mergeSort le2 := by rw [lz]; exact List.take_length
        rw [tl2] at hdp
        refine ⟨D2, ps, rfl, .inl ⟨SqL.of h4D, fun l hl4 => ⟨(by show 2 ≤ sizeLine; decide), fun r hr5 => ?_⟩⟩⟩
        have s4 : Same H3 H4 := fun b o e => kp4 b o (ne_of_none e hD2) e
        have s5 := same_new (o := .tup ps) hl4
        have s6 := same_new (o := .tup [.int n, .ref l]) hr5
        refine q _ _ ((((sm.trans sm3).trans s4).trans s5).trans s6) ?_
        have el : (upd (upd H4 l (.tup ps)) r (.tup [.int n, .ref l])) l = some (.tup ps) := s6 _ _ upd_same
        exact ⟨r, l, ps, rfl, upd_same, el, eachs_imp (fun _ _ => partT_s (TupS.of (s5.trans s6))) hdp⟩
end
end DR

namespace DR
open PySem PySem.Spec PyProof.Rows L2
/-! ### a for over a list or a tuple -/
def iSeq (K : PySem.W.Frag) (tl : TE) : TI := fun σ H R => tl σ H fun x H1 => ∃ a xs, x = .ref a ∧ (SqL K H1 a xs ∨ SqT K H1 a xs) ∧ ∀ J G, Walk J xs.length G (YAt xs) → (∀ H4, (SqL K H1 a xs → SqL K H4 a xs) → (SqT K H1 a xs → SqT K H4 a xs) → G H4) → R J H1
theorem pi_seq {X : Cx} {tg l : Expr} {tl : TE} (hl : PE X l tl) : PI X tg l (iSeq X.K tl) := by
  refine ⟨fun pins s σ H R I h => ?_⟩
  refine thn (hl.run pins s σ H _ I h) fun v s1 ⟨x, H1, I1, r1, q1⟩ => ?_
  obtain ⟨a, xs, e, hq, q⟩ := q1
  subst e
  cases r1
  have fp : ∀ b ∈ [s1.heap.objs.size], FpOk X pins H1 b := fun b hb => by
    have e : b = s1.heap.objs.size := by simpa using hb
    subst e
    exact I1.fpOk (Nat.le_refl _) (I1.hok.fresh (Nat.le_refl _))
  rcases hq with hq | hq
  · obtain ⟨its, rv, p, hz⟩ := I1.list hq
    refine wpAny_pyIter_list p.isList ?_
    exact ⟨s1.heap.objs.size, [s1.heap.objs.size], _, _, H1, rfl, I1.kept (t' := s1.toks) fun b o e => Heap.get?_push_of_some _ e, turn_list a _, ⟨_, Heap.get?_push_size _ rfl, rfl, rfl⟩, fp, q _ (fun H4 => SqL X.K H4 a xs) walk_list fun H4 e _ => e hq⟩
  · obtain ⟨its, rv, p, hz⟩ := I1.tuple hq
    refine wpAny_pyIter_tuple (show s1.heap.IsTuple a its.toArray from p) ?_
    exact ⟨s1.heap.objs.size, [s1.heap.objs.size], _, _, H1, rfl, I1.kept (t' := s1.toks) fun b o e => Heap.get?_push_of_some _ e, turn_tuple a _, ⟨_, Heap.get?_push_size _ rfl, rfl, rfl⟩, fp, q _ (fun H4 => SqT X.K H4 a xs) walk_tup fun H4 _ e => e hq⟩
/-! ### the mirror of read_sum -/
def putI (kvs : Mul) (u : List Key) (m : Int) : Mul := if (kvs.any fun kv => decide (kv.1 = u)) = true then kvs.map (fun kv => if kv.1 = u then (kv.1, m) else kv) else kvs ++ [(u, m)]
theorem put_vKv (kvs : Mul) (u : List Key) (m : Int) : putK (vKv kvs) u (.int m) = vKv (putI kvs u m) := by
  unfold putK putI vKv
  have e : ((kvs.map fun p => (p.1, V.int p.2)).any fun kv => decide (kv.1 = u)) = kvs.any fun kv => decide (kv.1 = u) := by
    rw [List.any_map]
    rfl
  rw [e]
  split
  · rw [List.map_map, List.map_map]
    apply List.map_congr_left
    intro p _
    by_cases h : p.1 = u
    · simp [h]
    · simp [h]
  · simp
theorem putI_len (kvs : Mul) (u : List Key) (m : Int) : (putI kvs u m).length ≤ kvs.length + 1 := by
  unfold putI
  split
  · rw [List.length_map]; omega
  · simp
theorem putI_keys {kvs : Mul} {u : List Key} {m : Int} (hu : NmU u) (h : ∀ x ∈ kvs.map (·.1), NmU x) : ∀ x ∈ (putI kvs u m).map (·.1), NmU x := by
  intro x hx
  unfold putI at hx
  split at hx
  · rw [List.map_map] at hx
    obtain ⟨p, hp, rfl⟩ := List.mem_map.mp hx
    have e : (Prod.fst ∘ fun kv : List Key × Int => if kv.1 = u then (kv.1, m) else kv) p = p.1 := by
      show (if p.1 = u then (p.1, m) else p).1 = p.1
      split <;> rfl
    rw [e]
    exact h _ (List.mem_map.mpr ⟨p, hp, rfl⟩)
  · rw [List.map_append] at hx
    rcases List.mem_append.mp hx with hx | hx
    · exact h x hx
    · have e : x = u := by simpa using hx
      rw [e]
      exact hu
def addPart (acc : Mul) (p : PyData) : Option Mul := match items p with
  | some [x, .int m] => (readUnk x).map fun u => putI acc u (getI acc u + m)
  | _ => none
def readParts : List PyData → Mul → Option Mul
  | [], acc => some acc
  | p :: r, acc => (addPart acc p).bind (readParts r)
theorem readParts_app : ∀ (ps qs : List PyData) (acc : Mul), readParts (ps ++ qs) acc = (readParts ps acc).bind (readParts qs)
  | [], qs, acc => rfl
  | p :: ps, qs, acc => by
    show (addPart acc p).bind (readParts (ps ++ qs)) = ((addPart acc p).bind (readParts ps)).bind (readParts qs)
    cases e : addPart acc p with
    | none => rfl
    | some a => exact readParts_app ps qs a
def readSum (d : PyData) : Option (Int × Mul) := match d with
  | .int n => some (n, [])
  | d => match items d with
    | some [.int n, q] => (items q).bind fun ds => (readParts ds []).map fun kvs => (n, form kvs)
    | _ => none
def okPart (p : PyData) : Prop := ∀ x m, items p = some [x, .int m] → shortP x ∧ ∀ u, readUnk x = some u → NmU u
def okSum (d : PyData) : Prop := ∀ n q ds, items d = some [.int n, q] → items q = some ds → ds.length ≤ 1000 ∧ ∀ p ∈ ds, okPart p
def SumV (K : PySem.W.Frag) (H : Hp) (v : V) : Option (Int × Mul) → Prop
  | none => v = .non
  | some (n, ps) => SumT H v n ps
def spReadSum (K : PySem.W.Frag) : Sp := fun vs H Q _ => ∃ v d, vs = [v] ∧ Th K H v d ∧ okSum d ∧ ∀ v' H', Same H H' → SumV K H' v' (readSum d) → Q v' H'
abbrev sReadSum : Stmt := topS 16
theorem scReadSum : FnScope ["thing", "multiples", "part", "unknown"] ["thing"] (defScope sReadSum) := ⟨rfl, rfl, rfl, by decide +kernel, rfl, by decide +kernel, by decide +kernel⟩
theorem row_sq {K : PySem.W.Frag} {H H' : Hp} {a : Addr} {xs : List V} (e : Same H H') (h : SqL K H a xs ∨ SqT K H a xs) : SqL K H' a xs ∨ SqT K H' a xs := h.imp (sqL_same e) (sqT_same e)
theorem ix_row {K : PySem.W.Frag} {H : Hp} {a : Addr} {xs : List V} {i : Int} {v : V} {Q : VK} (h : SqL K H a xs ∨ SqT K H a xs) (e : atI xs i = some v) (q : Q v H) : rIx K (.ref a) (.int i) H Q := by
  rcases h with h | h
  · exact .inl ⟨a, xs, i, v, rfl, rfl, h, e, q⟩
  · exact .inr (.inl ⟨a, xs, i, v, rfl, rfl, h, e, q⟩)
theorem rd_drop {H : Hp} {D b : Addr} {o u : HO} (h : Rd (upd H D o) b u) (h1 : o ≠ u) (h2 : ∀ x, o ≠ .frz x u) : Rd H b u := by
  have hb : b ≠ D := fun z => by
    rcases h with h | ⟨x, h⟩
    · rw [z, upd_same] at h
      exact h1 (Option.some.inj h)
    · rw [z, upd_same] at h
      exact h2 x (Option.some.inj h)
  rcases h with h | ⟨x, h⟩
  · rw [upd_ne hb] at h
    exact .inl h
  · rw [upd_ne hb] at h
    exact .inr ⟨x, h⟩
theorem sqL_drop {K : PySem.W.Frag} {H : Hp} {D b : Addr} {k : List (List Key × V)} {xs : List V} (h : SqL K (upd H D (.dT k)) b xs) : SqL K H b xs := by
  rcases h with h | h
  · exact .inl (rd_drop h (by intro z; cases z) (by intro x z; cases z))
  · exact .inr h
theorem sqT_drop {K : PySem.W.Frag} {H : Hp} {D b : Addr} {k : List (List Key × V)} {xs : List V} (h : SqT K (upd H D (.dT k)) b xs) : SqT K H b xs := by
  rcases h with h | h
  · exact .inl (rd_drop h (by intro z; cases z) (by intro x z; cases z))
  · exact .inr h
theorem row_drop {K : PySem.W.Frag} {H : Hp} {D b : Addr} {k : List (List Key × V)} {xs : List V} (h : SqL K (upd H D (.dT k)) b xs ∨ SqT K (upd H D (.dT k)) b xs) : SqL K H b xs ∨ SqT K H b xs := h.imp sqL_drop sqT_drop
theorem dps_get {K : PySem.W.Frag} {H : Hp} : ∀ {vs : List V} {ds : List PyData}, DpAll K H vs ds → ∀ {i : Nat} {v : V}, vs[i]? = some v → ∃ d, ds[i]? = some d ∧ Dp K H v d
  | _, _, .nil, i, v, h => by simp at h
  | _, _, .cons g t, 0, v, e => by
    obtain rfl : _ = v := Option.some.inj e
    exact ⟨_, rfl, g⟩
  | _, _, .cons g t, i + 1, v, e => dps_get t (i := i) e
theorem parts_split {ds : List PyData} {i : Nat} {dp : PyData} (h : ds[i]? = some dp) : ds = ds.take i ++ dp :: ds.drop (i + 1) := by
  have hi : i < ds.length := (List.getElem?_eq_some_iff.mp h).1
  have e : ds[i] = dp := (List.getElem?_eq_some_iff.mp h).2
  rw [← e, ← List.drop_eq_getElem_cons hi]
  exact (List.take_append_drop i ds).symm
theorem parts_stop {ds : List PyData} {i : Nat} {dp : PyData} {acc : Mul} (h : ds[i]? = some dp) (h1 : readParts (ds.take i) [] = some acc) (h2 : addPart acc dp = none) : readParts ds [] = none := by
  rw [parts_split h, readParts_app, h1]
  show (addPart acc dp).bind _ = none
  rw [h2]
  rfl
theorem parts_more {ds : List PyData} {i : Nat} {dp : PyData} {acc acc' : Mul} (h : ds[i]? = some dp) (h1 : readParts (ds.take i) [] = some acc) (h2 : addPart acc dp = some acc') : readParts (ds.take (i + 1)) [] = some acc' := by
  rw [List.take_add_one, h, readParts_app, h1]
  show (addPart acc dp).bind (readParts []) = some acc'
  rw [h2]
  rfl
theorem getD_val (acc : Mul) (u : List Key) : (valV (vKv acc) u).getD (.int 0) = .int (getI acc u) := by
  rw [valV_kv]
  unfold getI
  cases acc.find? fun kv => decide (kv.1 = u) with
  | none => rfl
  | some p => rfl
/-- two items -/
theorem dps_two {K : PySem.W.Frag} {H : Hp} {xs : List V} {a b : PyData} (h : DpAll K H xs [a, b]) : ∃ x y, xs = [x, y] ∧ Dp K H x a ∧ Dp K H y b := by
  cases h with
  | cons h1 h => cases h with
    | cons h2 h =>
      cases h
      exact ⟨_, _, rfl, h1, h2⟩
theorem rof_two {d : PyData} (h : isRof d 2 = true) : ∃ a b, items d = some [a, b] := by
  unfold isRof at h
  cases e : items d with
  | none => rw [e] at h; cases h
  | some xs =>
    rw [e] at h
    have e' : ((xs.length : Int) = 2) := of_decide_eq_true h
    match xs, e' with
    | [x, y], _ => exact ⟨x, y, rfl⟩
    | [], z => exact absurd z (by decide)
    | [_], z => exact absurd z (by simp)
    | _ :: _ :: _ :: _, z => simp at z; omega
theorem rof_not {d : PyData} (h : isRof d 2 = false) : ∀ a b, items d ≠ some [a, b] := by
  intro a b e
  unfold isRof at h
  rw [e] at h
  cases h
theorem at2 {a b : V} (i : Nat) (v : V) (h : [a, b][i]? = some v) : atI [a, b] (i : Int) = some v := by
  have hi : i < 2 := (List.getElem?_eq_some_iff.mp h).1
  unfold atI ixN
  rw [if_pos (by omega), if_pos (by show (i : Int) < ((2 : Nat) : Int); omega)]
  show ([a, b] : List V)[((i : Int)).toNat]? = _
  rw [Int.toNat_natCast]
  exact h
section
variable {P : Program} {w : World} {K : PySem.W.Frag} {mg : Str → Option Value} {base : Heap}
theorem ok_readSum {f : Addr} {fd : FuncData} (F : Fun K "read_sum" "read_sum" sReadSum f fd) (G1 : Has P w K mg base CX0 3 "is_integer" ["thing"] (spIsInt K)) (G2 : Has P w K mg base CX0 3 "is_row_of" ["thing", "many"] (spIsRowOf K))
    (G3 : Has P w K mg base CX0 3 "is_row" ["thing"] (spIsRow K)) (G4 : Has P w K mg base CX0 3 "read_unknown" ["thing"] (spReadUnk K)) (G5 : Has P w K mg base CX0 3 "one_form" ["number", "multiples"] (spOneForm K)) :
    FnOk P w K mg base CX0 4 f fd ["thing"] (spReadSum K) := by
  refine F.ok scReadSum (fun vs H Q E h => ?_) (fun cdv A outer s H vs Q E hr h => ?_)
  · obtain ⟨v, d, rfl, _⟩ := h
    rfl
  · obtain ⟨v, d, rfl, th, ok, q⟩ := h
    have hu := hu_of hr
    refine ⟨_, (pss_cons (ps_if (pt_val (pe_callH G1 hr (by rfl) pass0 (pa_cons (pv 0) pa_nil))) (pss_one (ps_ret (pe_tup (pa_cons (pv 0) (pa_cons (pe_tup pa_nil) pa_nil))))) pss_nil)
      (pss_cons (ps_if (PW.pt (pw_or (pt_not (pt_val (pe_callH G2 hr (by rfl) pass0 (pa_cons (pv 0) (pa_cons pe_int pa_nil))))) (pw_or (pt_not (pt_val (pe_callH G1 hr (by rfl) pass0 (pa_cons (pe_ix ix_seq (pv 0) pe_int (fun _ _ => rfl)) pa_nil)))) (pw_or1 (pt_not (pt_val (pe_callH G3 hr (by rfl) pass0 (pa_cons (pe_ix ix_seq (pv 0) pe_int (fun _ _ => rfl)) pa_nil)))))))) (pss_one (ps_ret pe_non)) pss_nil)
      (pss_cons (ps_set (i := 1) scReadSum.nd rfl (.inl rfl) (pe_dnewT))
      (pss_cons (ps_for PassesOwn.never rfl (pi_seq (pe_ix ix_seq (pv 0) pe_int (fun _ _ => rfl))) (pg_name (i := 2) scReadSum.nd rfl (.inl rfl)) (pss_cons (ps_if (PW.pt (pw_or (pt_not (pt_val (pe_callH G2 hr (by rfl) pass0 (pa_cons (pv 2) (pa_cons pe_int pa_nil))))) (pw_or1 (pt_not (pt_val (pe_callH G1 hr (by rfl) pass0 (pa_cons (pe_ix ix_seq (pv 2) pe_int (fun _ _ => rfl)) pa_nil))))))) (pss_one (ps_ret pe_non)) pss_nil)
      (pss_cons (ps_set (i := 3) scReadSum.nd rfl (.inl rfl) (pe_callH G4 hr (by rfl) pass0 (pa_cons (pe_ix ix_seq (pv 2) pe_int (fun _ _ => rfl)) pa_nil)))
      (pss_cons (ps_if (pt_cmpR op_isN (pv 3) pe_non (nomark _)) (pss_one (ps_ret pe_non)) pss_nil)
      (pss_one (ps_dput hu (pv 1) (pv 3) (pe_op op_add (pe_dget2 hu (pv 1) (pv 3) pe_int ⟨rfl, rfl, rfl, rfl⟩) (pe_ix ix_seq (pv 2) pe_int (fun _ _ => rfl))) rfl))))))
      (pss_one (ps_ret (pe_callH G5 hr (by rfl) pass0 (pa_cons (pe_ix ix_seq (pv 0) pe_int (fun _ _ => rfl)) (pa_cons (pv 1) pa_nil))))))))), ?_⟩
    refine ⟨_, rfl, v, d, rfl, th, _, rfl, ?_⟩
    cases ei : isI d with
    | true =>
      obtain ⟨n, rfl⟩ : ∃ n, d = .int n := by
        cases d with
        | int n => exact ⟨n, rfl⟩
        | _ => cases ei
      obtain rfl : v = .int n := by
        cases th with
        | dat h => cases h; rfl
      refine iteT ⟨_, rfl, Nat.zero_le _, fun e he => ⟨(by show 2 ≤ sizeLine; decide), fun p hp => ?_⟩⟩
      refine q _ _ ((same_new he).trans (same_new hp)) ?_
      have ee : (upd (upd H e (.tup [])) p (.tup [.int n, .ref e])) e = some (.tup []) := same_new hp _ _ upd_same
      exact ⟨p, e, [], rfl, upd_same, ee, .nil⟩
    | false =>
      refine iteF ?_
      have rs : readSum d = match items d with
        | some [.int n, q] => (items q).bind fun ds => (readParts ds []).map fun kvs => (n, form kvs)
        | _ => none := by
        cases d with
        | int n => cases ei
        | _ => rfl
      refine ⟨_, rfl, v, d, 2, rfl, th, fun H1 sm1 => ⟨_, rfl, ?_⟩⟩
      cases e2 : isRof d 2 with
      | false =>
        refine iteT (q _ _ sm1 ?_)
        have z : readSum d = none := by
          rw [rs]
          split
          · rename_i n q' e
            exact absurd e (rof_not e2 _ _)
          · rfl
        rw [z]
        rfl
      | true =>
        refine iteF ?_
        obtain ⟨d1, dq, e3⟩ := rof_two e2
        obtain ⟨a, xs, rfl, hs, ha⟩ := th_row (th_same sm1 th) e3
        obtain ⟨v1, vq, rfl, h1, h2⟩ := dps_two ha
        refine ⟨_, rfl, ix_row hs (at2 0 v1 rfl) ?_⟩
        refine ⟨v1, d1, rfl, .dat h1, _, rfl, ?_⟩
        cases ei1 : isI d1 with
        | false =>
          refine iteT (q _ _ sm1 ?_)
          have z : readSum d = none := by
            rw [rs, e3]
            cases d1 with
            | int n => cases ei1
            | _ => rfl
          rw [z]
          rfl
        | true =>
          obtain ⟨n, rfl⟩ : ∃ n, d1 = .int n := by
            cases d1 with
            | int n => exact ⟨n, rfl⟩
            | _ => cases ei1
          cases h1
          rw [e3] at rs
          refine iteF ⟨_, rfl, ix_row hs (at2 1 vq rfl) ⟨vq, dq, rfl, .dat h2, fun H2 sm2 => ⟨_, rfl, ?_⟩⟩⟩
          rw [isR_items]
          cases e4 : items dq with
          | none =>
            refine iteT (q _ _ (sm1.trans sm2) ?_)
            have z : readSum d = none := by
              rw [rs]
              show (items dq).bind _ = none
              rw [e4]
              rfl
            rw [z]
            rfl
          | some ds =>
            obtain ⟨hlen, hok⟩ := ok n dq ds e3 e4
            have rs2 : readSum d = (readParts ds []).map fun kvs => (n, form kvs) := by
              rw [rs]
              show (items dq).bind _ = _
              rw [e4]
              rfl
            have hs2 := row_sq sm2 hs
            obtain ⟨b, ys, rfl, hb, hby⟩ := th_row (th_same sm2 (.dat h2)) e4
            refine iteF fun D hD => ?_
            have sm3 := sm1.trans (sm2.trans (same_new (o := .dT []) hD))
            refine ⟨_, rfl, ix_row (row_sq (same_new hD) hs2) (at2 1 _ rfl) ⟨b, ys, rfl, row_sq (same_new hD) hb, fun J G W hG => ?_⟩⟩
            have ly : ys.length = ds.length := dps_len hby
            have keyless : ∀ x ∈ ([] : Mul).map Prod.fst, NmU x := fun x hx => by simp at hx
            refine for_it W (fun i σ H4 => ∃ (acc : Mul) (p u : Option V), σ = [some (.ref a), some (.ref D), p, u] ∧ Same H2 H4 ∧ H4 D = some (.dT (vKv acc)) ∧ readParts (ds.take i) [] = some acc ∧ (∀ x ∈ acc.map Prod.fst, NmU x) ∧ acc.length ≤ i)
              ⟨[], none, none, rfl, same_new hD, upd_same, rfl, keyless, Nat.le_refl _⟩ (fun i σ H4 _ ⟨_, _, _, _, s4, _⟩ => hG H4 (fun z => sqL_same s4 (sqL_drop z)) (fun z => sqT_same s4 (sqT_drop z))) ?_ ?_
            · rintro i x σ H4 H4' hi ⟨acc, p, u, rfl, s4, hD4, hrp, hnm, hal⟩ ⟨rfl, hx⟩
              obtain ⟨dp, hdp, hxd⟩ := dps_get hby hx
              have hxd4 := dp_same s4 hxd
              have hokp := hok dp (List.mem_of_getElem? hdp)
              have stop : addPart acc dp = none → readSum d = none := by
                intro e
                rw [rs2, parts_stop hdp hrp e]
                rfl
              refine ⟨_, rfl, x, dp, 2, rfl, .dat hxd4, fun H5 s5 => ⟨_, rfl, ?_⟩⟩
              cases e5 : isRof dp 2 with
              | false =>
                refine iteT (q _ _ ((sm1.trans sm2).trans (s4.trans s5)) ?_)
                rw [stop (by
                  unfold addPart
                  split
                  · rename_i x' m' e
                    exact absurd e (rof_not e5 _ _)
                  · rfl)]
                rfl
              | true =>
                obtain ⟨pu, pm, e6⟩ := rof_two e5
                obtain ⟨c, zs, rfl, hc, hcd⟩ := th_row (.dat (dp_same s5 hxd4)) e6
                obtain ⟨w1, w2, rfl, g1, g2⟩ := dps_two hcd
                refine iteF ⟨_, rfl, ix_row hc (at2 1 w2 rfl) ⟨w2, pm, rfl, .dat g2, _, rfl, ?_⟩⟩
                cases e7 : isI pm with
                | false =>
                  refine iteT (q _ _ ((sm1.trans sm2).trans (s4.trans s5)) ?_)
                  rw [stop (by
                    unfold addPart
                    rw [e6]
                    cases pm with
                    | int m => cases e7
                    | _ => rfl)]
                  rfl
                | true =>
                  obtain ⟨m, rfl⟩ : ∃ m, pm = .int m := by
                    cases pm with
                    | int m => exact ⟨m, rfl⟩
                    | _ => cases e7
                  cases g2
                  obtain ⟨shp, hnu⟩ := hokp pu m e6
                  refine iteF ⟨_, rfl, ix_row hc (at2 0 w1 rfl) ⟨w1, pu, rfl, .dat g1, shp, fun vu H6 s6 hvu => ?_⟩⟩
                  have ea : addPart acc dp = (readUnk pu).map fun u => putI acc u (getI acc u + m) := by
                    unfold addPart
                    rw [e6]
                  cases e8 : readUnk pu with
                  | none =>
                    rw [e8] at hvu ea
                    obtain rfl : vu = .non := hvu
                    refine ⟨_, rfl, rfl, _, rfl, iteT (q _ _ ((sm1.trans sm2).trans ((s4.trans s5).trans s6)) ?_)⟩
                    rw [stop ea]
                    rfl
                  | some uu =>
                    rw [e8] at hvu ea
                    obtain ⟨au, rfl, hau⟩ := hvu
                    have hD6 : H6 D = some (.dT (vKv acc)) := s6 _ _ (s5 _ _ hD4)
                    refine ⟨_, rfl, rfl, _, rfl, iteF ?_⟩
                    refine ⟨_, rfl, D, rfl, .inr ⟨_, .inl hD6⟩, _, rfl, _, DGet.t hD6 hau, _, rfl, ix_row (row_sq s6 hc) (at2 1 _ rfl) ⟨getI acc uu, m, getD_val acc uu, rfl, ?_⟩⟩
                    have hi2 : i < ds.length := (List.getElem?_eq_some_iff.mp hdp).1
                    refine ⟨_, rfl, _, rfl, D, _, rfl, DPut.t hD6 hau (by
                      show (List.map _ acc).length < sizeLine
                      rw [List.length_map]
                      exact small1000 (by omega)), ?_⟩
                    rw [put_vKv]
                    refine ⟨_, _, _, rfl, fun b o e => ?_, upd_same, parts_more hdp hrp ea, putI_keys (hnu uu e8) hnm, Nat.le_trans (putI_len _ _ _) (by omega)⟩
                    rw [upd_ne (ne_of_none e hD)]
                    exact s6 _ _ (s5 _ _ (s4 _ _ e))
            · rintro σ H4 ⟨acc, p, u, rfl, s4, hD4, hrp, hnm, hal⟩
              rw [ly, List.take_length] at hrp
              rw [ly] at hal
              refine ⟨_, rfl, ix_row (row_sq s4 hs2) (at2 0 _ rfl) ⟨_, rfl, n, D, acc, rfl, hD4, hnm, by omega, fun v' H5 s5 hv => ?_⟩⟩
              refine q _ _ ((sm1.trans sm2).trans (s4.trans s5)) ?_
              rw [rs2, hrp]
              exact hv
end
end DR

namespace DR
open PySem PySem.Spec PyProof.Rows L2
/-! ### the order of unknowns -/
theorem data_tot {β : Type} (k : β → PyData) : PySem.W.TotalLe (PySem.W.dataLe false k) := by
  unfold PySem.W.dataLe
  exact PySem.W.sortLe_total _ _ _
theorem tot_or {β : Type} {r : β → β → Bool} (h : PySem.W.TotalLe r) (a b : β) : (r a b || r b a) = true := by
  rcases h.total a b with h | h
  · rw [h]
    rfl
  · rw [h, Bool.or_true]
theorem le2_trans : ∀ a b c, le2 a b = true → le2 b c = true → le2 a c = true := (data_tot keyD).trans
theorem le2_total : ∀ a b, (le2 a b || le2 b a) = true := tot_or (data_tot keyD)
theorem str_lt_irr (z : Str) : ¬ z.cps.toList < z.cps.toList := List.lt_irrefl _
theorem str_anti {z z' : Str} (h1 : ¬ z.cps.toList < z'.cps.toList) (h2 : ¬ z'.cps.toList < z.cps.toList) : z = z' := by
  have e : z.cps.toList = z'.cps.toList := List.le_antisymm (List.not_lt.mp h2) (List.not_lt.mp h1)
  obtain ⟨⟨l⟩⟩ := z
  obtain ⟨⟨l'⟩⟩ := z'
  have e' : l = l' := e
  rw [e']
/-- what is not less either way is the same -/
theorem toks_same {a b : PyData} (h1 : PySem.W.dataLt a b = false) (h2 : PySem.W.dataLt b a = false) : PySem.W.keyToks a = PySem.W.keyToks b := lex_total (O := itemOrd) _ _ h1 h2
theorem kD_toks {o o' : Key} {l m : List (Int ⊕ List Nat)} (h : PySem.W.keyToks (kD o) ++ l = PySem.W.keyToks (kD o') ++ m) : o = o' := by
  cases o with
  | inl i =>
    cases o' with
    | inl j =>
      have e := (List.cons.inj (show Sum.inl i :: l = Sum.inl j :: m from h)).1
      rw [Sum.inl.inj e]
    | inr z => exact nomatch (List.cons.inj (show (Sum.inl i : Int ⊕ List Nat) :: l = Sum.inr z.cps.toList :: m from h)).1
  | inr z =>
    cases o' with
    | inl j => exact nomatch (List.cons.inj (show (Sum.inr z.cps.toList : Int ⊕ List Nat) :: l = Sum.inl j :: m from h)).1
    | inr z' =>
      have e := (List.cons.inj (show Sum.inr z.cps.toList :: l = Sum.inr z'.cps.toList :: m from h)).1
      rw [PySem.W.str_of_cps (Sum.inr.inj e)]
theorem key_inj {a b : List Key} (ha : NmU a) (hb : NmU b) (h : PySem.W.keyToks (keyD a) = PySem.W.keyToks (keyD b)) : a = b := by
  obtain ⟨k, o, rfl, h1, _⟩ := ha
  obtain ⟨k', o', rfl, h1', _⟩ := hb
  rw [keyD_is, keyD_is] at h
  have h' : (Sum.inl 1 :: Sum.inl ((rank k).getD 0) :: Sum.inl 1 :: (PySem.W.keyToks (kD o) ++ [Sum.inl 0]) : List (Int ⊕ List Nat)) = Sum.inl 1 :: Sum.inl ((rank k').getD 0) :: Sum.inl 1 :: (PySem.W.keyToks (kD o') ++ [Sum.inl 0]) := by
    have := h
    simp only [PySem.W.keyToks, PySem.W.keyToksAll, List.cons_append, List.nil_append] at this
    exact this
  have e1 := (List.cons.inj (List.cons.inj h').2).1
  have e2 := (List.cons.inj (List.cons.inj (List.cons.inj h').2).2).2
  rw [rank_inj h1 h1' (Sum.inl.inj e1), kD_toks e2]
theorem le2_def (a b : List Key) : le2 a b = !PySem.W.dataLt (keyD b) (keyD a) := rfl
theorem le2_anti : ∀ a b, NmU a → NmU b → le2 a b = true → le2 b a = true → a = b := by
  intro a b ha hb h1 h2
  rw [le2_def, Bool.not_eq_true'] at h1 h2
  exact key_inj ha hb (toks_same h2 h1)
/-! ### sums as sums over their parts -/
/-- the parts' worth, each unknown worth F of it -/
def lin (F : List Key → Int) : Mul → Int
  | [] => 0
  | p :: l => p.2 * F p.1 + lin F l
theorem lin_app (F : List Key → Int) : ∀ l m : Mul, lin F (l ++ m) = lin F l + lin F m
  | [], m => by simp [lin]
  | p :: l, m => by
    show p.2 * F p.1 + lin F (l ++ m) = _
    rw [lin_app F l m]
    simp only [lin]
    omega
def NodK (l : Mul) : Prop := (l.map (·.1)).Nodup
theorem getI_nil (u : List Key) : getI [] u = 0 := rfl
theorem getI_cons (p : List Key × Int) (l : Mul) (u : List Key) : getI (p :: l) u = if p.1 = u then p.2 else getI l u := by
  unfold getI
  rw [List.find?_cons]
  by_cases h : p.1 = u
  · simp [h]
  · simp [h]
theorem getI_not {l : Mul} {u : List Key} (h : u ∉ l.map (·.1)) : getI l u = 0 := by
  induction l with
  | nil => rfl
  | cons p l ih =>
    rw [List.map_cons, List.mem_cons, not_or] at h
    rw [getI_cons, if_neg fun e => h.1 e.symm]
    exact ih h.2
theorem any_key {l : Mul} {u : List Key} : (l.any fun kv => decide (kv.1 = u)) = true ↔ u ∈ l.map (·.1) := by
  rw [List.any_eq_true, List.mem_map]
  constructor
  · rintro ⟨p, hp, e⟩
    exact ⟨p, hp, of_decide_eq_true e⟩
  · rintro ⟨p, hp, e⟩
    exact ⟨p, hp, decide_eq_true e⟩
theorem map_not {l : Mul} {u : List Key} (m : Int) (h : u ∉ l.map (·.1)) : l.map (fun kv => if kv.1 = u then (kv.1, m) else kv) = l := by
  induction l with
  | nil => rfl
  | cons p l ih =>
    rw [List.map_cons, List.mem_cons, not_or] at h
    rw [List.map_cons, ih h.2, if_neg fun e => h.1 e.symm]
theorem putI_in {l : Mul} {u : List Key} (m : Int) (h : u ∈ l.map (·.1)) : (putI l u m).map (·.1) = l.map (·.1) := by
  unfold putI
  rw [if_pos (any_key.mpr h), List.map_map]
  apply List.map_congr_left
  intro p _
  show (if p.1 = u then (p.1, m) else p).1 = p.1
  split <;> rfl
theorem putI_out {l : Mul} {u : List Key} (m : Int) (h : u ∉ l.map (·.1)) : putI l u m = l ++ [(u, m)] := by
  unfold putI
  rw [if_neg (fun z => h (any_key.mp z))]
theorem nodK_put {l : Mul} (h : NodK l) (u : List Key) (m : Int) : NodK (putI l u m) := by
  unfold NodK
  cases Classical.em (u ∈ l.map (·.1)) with
  | inl z =>
    rw [putI_in m z]
    exact h
  | inr z =>
    rw [putI_out m z, List.map_append]
    refine List.nodup_append.mpr ⟨h, (by simp), fun a ha b hb e => ?_⟩
    have hb' : b = u := by simpa using hb
    exact z (hb' ▸ e ▸ ha)
theorem lin_map {F : List Key → Int} {u : List Key} {m : Int} : ∀ {l : Mul}, NodK l → u ∈ l.map (·.1) → lin F (l.map (fun kv => if kv.1 = u then (kv.1, m) else kv)) = lin F l + (m - getI l u) * F u
  | [], _, h => by simp at h
  | p :: l, nd, h => by
    have nd' := List.nodup_cons.mp (show (p.1 :: l.map (·.1)).Nodup from nd)
    rw [List.map_cons]
    by_cases c : p.1 = u
    · rw [if_pos c, map_not m (c ▸ nd'.1), getI_cons, if_pos c]
      show m * F p.1 + lin F l = p.2 * F p.1 + lin F l + _
      rw [c, Int.sub_mul]
      omega
    · have h2 : u ∈ l.map (·.1) := by
        rcases List.mem_cons.mp h with z | z
        · exact absurd z.symm c
        · exact z
      rw [if_neg c, getI_cons, if_neg c]
      show p.2 * F p.1 + lin F _ = p.2 * F p.1 + lin F l + _
      rw [lin_map nd'.2 h2]
      omega
theorem lin_put {F : List Key → Int} {l : Mul} (nd : NodK l) (u : List Key) (m : Int) : lin F (putI l u (getI l u + m)) = lin F l + m * F u := by
  unfold putI
  by_cases h : u ∈ l.map (·.1)
  · rw [if_pos (any_key.mpr h), lin_map nd h]
    have e : getI l u + m - getI l u = m := by omega
    rw [e]
  · rw [if_neg (fun z => h (any_key.mp z)), lin_app, getI_not h]
    simp [lin]
/-- whether it is v -/
def isU (v : List Key) (u : List Key) : Int := if u = v then 1 else 0
theorem getI_lin {l : Mul} (nd : NodK l) (v : List Key) : getI l v = lin (isU v) l := by
  induction l with
  | nil => rfl
  | cons p l ih =>
    have nd' := List.nodup_cons.mp (show (p.1 :: l.map (·.1)).Nodup from nd)
    rw [getI_cons]
    show _ = p.2 * isU v p.1 + lin (isU v) l
    rw [← ih nd'.2]
    unfold isU
    by_cases c : p.1 = v
    · rw [if_pos c, if_pos c, getI_not (c ▸ nd'.1)]
      omega
    · rw [if_neg c, if_neg c]
      omega
theorem lin_perm {F : List Key → Int} {l m : Mul} (h : l.Perm m) : lin F l = lin F m := by
  induction h with
  | nil => rfl
  | cons x _ ih => simp only [lin, ih]
  | swap x y l =>
    simp only [lin]
    omega
  | trans _ _ i1 i2 => exact i1.trans i2
theorem lin_keys {F : List Key → Int} (g : List Key → Int) : ∀ us : List (List Key), lin F ((us.filter fun u => !decide (g u = 0)).map fun u => (u, g u)) = lin F (us.map fun u => (u, g u))
  | [] => rfl
  | u :: us => by
    rw [List.filter_cons, List.map_cons]
    show _ = g u * F u + lin F _
    rw [← lin_keys g us]
    by_cases c : g u = 0
    · simp [c]
    · simp [c, lin]
theorem lin_self {F : List Key → Int} : ∀ {l : Mul}, NodK l → (l.map (·.1)).map (fun u => (u, getI l u)) = l
  | [], _ => rfl
  | p :: l, nd => by
    have nd' := List.nodup_cons.mp (show (p.1 :: l.map (·.1)).Nodup from nd)
    rw [List.map_cons, List.map_cons, getI_cons, if_pos rfl]
    refine congrArg (p :: ·) (Eq.trans ?_ (lin_self (F := F) nd'.2))
    apply List.map_congr_left
    intro u hu
    rw [getI_cons, if_neg]
    intro e
    exact nd'.1 (e ▸ hu)
theorem lin_form {F : List Key → Int} {l : Mul} (nd : NodK l) : lin F (form l) = lin F l := by
  unfold form
  rw [lin_perm ((List.mergeSort_perm (keysN l) le2).map fun u => (u, getI l u))]
  unfold keysN
  rw [lin_keys (getI l), lin_self (F := F) nd]
theorem keysN_mem {l : Mul} {u : List Key} : u ∈ keysN l ↔ getI l u ≠ 0 := by
  unfold keysN
  rw [List.mem_filter]
  constructor
  · rintro ⟨_, h⟩ e
    simp [e] at h
  · intro h
    refine ⟨?_, by simp [h]⟩
    cases Classical.em (u ∈ l.map (·.1)) with
    | inl z => exact z
    | inr z => exact absurd (getI_not z) h
theorem keysN_nod {l : Mul} (nd : NodK l) : (keysN l).Nodup := List.Nodup.sublist List.filter_sublist nd
def NmK (l : Mul) : Prop := ∀ u ∈ l.map (·.1), NmU u
theorem keysN_nm {l : Mul} (h : NmK l) : ∀ u ∈ keysN l, NmU u := fun u hu => h u (List.mem_filter.mp hu).1
/-- a row of unknowns in order is the one in order -/
theorem sort_one {us vs : List (List Key)} (h : ∀ u ∈ us, NmU u) (p : us.Perm vs) (o : us.Pairwise fun a b => le2 a b = true) : vs.mergeSort le2 = us := by
  have pm : us.Perm (vs.mergeSort le2) := p.trans (List.mergeSort_perm vs le2).symm
  have o2 : (vs.mergeSort le2).Pairwise fun a b => le2 a b = true := List.pairwise_mergeSort le2_trans le2_total vs
  exact (pm.eq_of_pairwise (fun a b ha hb h1 h2 => le2_anti a b (h a ha) (h b (pm.mem_iff.mpr hb)) h1 h2) o o2).symm
theorem form_eq {l m : Mul} (nl : NodK l) (nm : NodK m) (kl : NmK l) (e : ∀ u, getI l u = getI m u) : form l = form m := by
  have hp : (keysN l).Perm (keysN m) := (List.perm_ext_iff_of_nodup (keysN_nod nl) (keysN_nod nm)).mpr fun u => by rw [keysN_mem, keysN_mem, e u]
  have q : (keysN m).mergeSort le2 = (keysN l).mergeSort le2 := by
    refine sort_one (fun u hu => keysN_nm kl u ((List.mergeSort_perm _ _).mem_iff.mp hu)) ((List.mergeSort_perm _ _).trans hp) ?_
    exact List.pairwise_mergeSort le2_trans le2_total _
  unfold form
  rw [q]
  apply List.map_congr_left
  intro u _
  rw [e u]
/-! ### parts added -/
/-- one part added -/
def addP (kvs : Mul) (u : List Key) (m : Int) : Mul := putI kvs u (getI kvs u + m)
theorem addP_keys {l : Mul} {u : List Key} {m : Int} {Pr : List Key → Prop} (h : ∀ x ∈ l.map (·.1), Pr x) (hu : Pr u) : ∀ x ∈ (addP l u m).map (·.1), Pr x := by
  unfold addP
  intro x hx
  cases Classical.em (u ∈ l.map (·.1)) with
  | inl z =>
    rw [putI_in _ z] at hx
    exact h x hx
  | inr z =>
    rw [putI_out _ z, List.map_append] at hx
    rcases List.mem_append.mp hx with hx | hx
    · exact h x hx
    · have e : x = u := by simpa using hx
      rw [e]
      exact hu
theorem addP_len (l : Mul) (u : List Key) (m : Int) : (addP l u m).length ≤ l.length + 1 := putI_len _ _ _
/-- the parts of a sum, added up -/
def accAll (l : Mul) : Mul := l.foldl (fun a q => addP a q.1 q.2) []
theorem acc_go : ∀ (l s : Mul), NodK s → NodK (l.foldl (fun a q => addP a q.1 q.2) s) ∧ ∀ F, lin F (l.foldl (fun a q => addP a q.1 q.2) s) = lin F s + lin F l
  | [], s, nd => ⟨nd, fun F => by simp [lin]⟩
  | q :: l, s, nd => by
    rw [List.foldl_cons]
    obtain ⟨h1, h2⟩ := acc_go l (addP s q.1 q.2) (nodK_put nd _ _)
    refine ⟨h1, fun F => ?_⟩
    rw [h2 F]
    unfold addP
    rw [lin_put nd]
    simp only [lin]
    omega
theorem acc_lin (l : Mul) (F : List Key → Int) : lin F (form (accAll l)) = lin F l := by
  obtain ⟨h1, h2⟩ := acc_go l [] List.nodup_nil
  unfold accAll
  rw [lin_form h1, h2]
  simp [lin]
end DR

namespace DR
open PySem PySem.Spec PyProof.Rows L2
/-! ### own errors of one field -/
/-- __init__ stores its argument under f -/
def spErrInit (K : PySem.W.Frag) (C : Addr) (f : Str) : Sp := fun vs H Q _ => ∃ a y, vs = [.ref a, y] ∧ H a = some (exo a C none) ∧ ∀ dx, H dx = none → dx ≠ a → Q .non (upd (upd H dx (exd dx [(f, y)])) a (exo a C (some dx)))
/-- what is known of such a class x at C -/
structure Err (P : Program) (w : World) (K : PySem.W.Frag) (mg : Str → Option Value) (base : Heap) (x : Str) (C : Addr) (f : Str) : Prop where
  g : mg x = some (.ref C)
  T : OexC K C
  no : PySem.W.findIn K (.ref C) f = some none
  xf : XfC K C
  te : PySem.W.exmOne K (.ref C) (.ref C) = some true
  ini : ∃ (fI : Addr) (fd : FuncData) (p2 : Str), PySem.W.findIn K (.ref C) "__init__" = some (some (.ref fI)) ∧ PySem.W.typeIn K (.ref fI) = some (.type "function") ∧ Binds K fd ["self", p2] [] ∧ FnOk P w K mg base CX0 1 fI fd ["self", p2] (spErrInit K C f)
theorem err_go {K : PySem.W.Frag} {C : Addr} {f : Str} {y : V} {H1 : Hp} {Q : XK} (q : ∀ dx, H1 dx = none → Q (.ref C) (some dx) (upd H1 dx (.xd [(f, y)]))) :
    [y].length ≤ 1000 ∧ ∀ a, H1 a = none → spErrInit K C f (.ref a :: ([y] ++ [])) (upd H1 a (exo a C none)) (fun v H2 => v = .non ∧ ∃ (d : Addr) (fs : List (Str × V)), H2 a = some (exo a C (some d)) ∧ H2 d = some (exd d fs) ∧ H1 d = none ∧ Q (.ref C) (some d) (upd (del H2 a) d (.xd fs))) (fun _ _ _ => False) := by
  refine ⟨(by show 1 ≤ 1000; decide), fun a ha => ⟨a, y, rfl, upd_same, fun dx hdx hne => ⟨rfl, dx, [(f, y)], upd_same, ?_, ?_, ?_⟩⟩⟩
  · rw [upd_ne hne, upd_same]
  · rw [upd_ne hne] at hdx
    exact hdx
  · have h1 : H1 dx = none := by
      rw [upd_ne hne] at hdx
      exact hdx
    have e : upd (del (upd (upd (upd H1 a (exo a C none)) dx (exd dx [(f, y)])) a (exo a C (some dx))) a) dx (.xd [(f, y)]) = upd H1 dx (.xd [(f, y)]) := by
      funext b
      by_cases hb : b = dx
      · rw [hb, upd_same, upd_same]
      · rw [upd_ne hb, upd_ne hb]
        by_cases hb2 : b = a
        · rw [hb2, del_same, ha]
        · rw [del_ne hb2, upd_ne hb2, upd_ne hb, upd_ne hb2]
    rw [e]
    exact q dx h1
def tRaise1 (K : PySem.W.Frag) (C : Addr) (f : Str) (te : TE) (W : WX) : TS := fun _ σ H => tMkO C (spErrInit K C f) [] (tCons te tNil) σ H fun cls d H' => W cls d σ H'
theorem ps_err {X : Cx} {W : WX} {x f : Str} {C : Addr} {e : Expr} {te : TE} {p pos pos2 : Pos} {k : Nat} (hc : X.calm = true) (tk : Takes X W) (T : Err X.prog X.w X.K X.mg X.base x C f) (hr : Room k X.A) (h2 : 2 ≤ k) (he : PE X e te) (hg : Gl X x := by rfl)
    (hdb : (x == ("__debug__" : Str)) = false := by decide) (hs : starEach (e :: []) X.env = (false, eval e X.env) :: starEach [] X.env := by rfl) (hpl : (backTo pos (starEach [] X.env)).any (·.1) = false := by rfl) :
    PS X (.Raise (some (.Call (.Name x p) [e] [] pos)) none pos2) (tRaise1 X.K C f te W) := by
  obtain ⟨fI, fd, p2, iC, tI, hb, F⟩ := T.ini
  exact ps_raise (pos := pos2) hc tk (pmk_oex (p := p) (pos := pos) T.T iC tI F (hr.mono h2) hb .nil pass0 hg T.g (pa_cons he pa_nil hs) hdb hs hpl)
end DR

namespace DR
open PySem PySem.Spec PyProof.Rows L2
/-! ### dict comprehensions whose keys are tuples -/
/-- the heap behind D[y] = z, y a tuple -/
def PutT (D : Addr) (y z : V) (Ha Hb : Hp) : Prop := ∃ (ks : List (List Key × V)) (u : List Key) (b : Addr), Ha D = some (.dT ks) ∧ y = .ref b ∧ Ha b = some (.tup (u.map kV)) ∧ ks.length < sizeLine ∧ Hb = upd Ha D (.dT (putK ks u z))
theorem run_putT {X : Cx} {pn : List (Addr × Obj)} {σ : L2.St} {Ha Hb : Hp} {s : Shared} {Er : Value → Shared → Prop} {D : Addr} {y z : V} {vy vz : Value} {Fi : Unit → Shared → Prop} (hu : X.A.units + 1 < cLine) (I : Inv X pn σ Ha s) (g : PutT D y z Ha Hb)
    (r1 : L2.RelV y vy) (r2 : L2.RelV z vz) (go : ∀ s', Inv X pn σ Hb s' → Fi () s') : wpAny (model X.prog X.w) X.A (dictSet D vy vz) Fi Er s := by
  obtain ⟨ks, u, b, hD, rfl, hb, few, rfl⟩ := g
  obtain rfl : vy = Value.ref b := r1
  obtain ⟨size, notM, xs, pr, isD⟩ := dt_of I.hok hD
  have lx : xs.length ≤ sizeLine := (Paired.length pr) ▸ size
  have few2 : (putK ks u z).length ≤ sizeLine := Nat.le_trans (length_putK ks u z) few
  refine wpAny_dictSet_heap (hsz := lx) (show (tupleKind (mixKind X.prog X.w)).room X.A from Nat.lt_of_succ_lt hu) (key_of I.hok hb) isD fun g2 isD2 same => go _ ?_
  obtain ⟨ob, en, epo, i1, i2, i3, i4, _, i6⟩ := isD2
  have stays : ∀ c us, Ha c = some (.tup us) → upd Ha D (.dT (putK ks u z)) c = some (.tup us) := fun c us ec => by
    rw [upd_ne (ne_of ec hD (fun e => nomatch e))]
    exact ec
  exact d_write I (by rw [hD]; trivial) same ⟨ob, i1⟩ ⟨few2, notM, _, (pr.put u hb r2).keeps fun c us ec => stays c us ec, ob, en, epo, i1, i2, i3, i4, i6⟩
/-- one turn of such a comprehension -/
def turnT (g : TG) (tt : TT) (tk tv : TE) (σ0 : L2.St) (vs : List Nat) (D : Addr) (Nx : Hp → Prop) (x : V) (Ha : Hp) : Prop :=
  g x (wipe σ0 vs) Ha fun σ1 Hb => wipe σ1 vs = wipe σ0 vs ∧ tt σ1 Hb fun b Hc => if b = true then tk σ1 Hc fun y Hd => tv σ1 Hd fun z He => ∃ Hf, PutT D y z He Hf ∧ Nx Hf else Nx Hc
/-- what is asked of such a comprehension -/
def tDt (wi : TI) (g : TG) (tt : TT) (tk tv : TE) (vs : List Nat) : TE := fun σ H Q => wi σ H fun J Ha => ∀ D, Ha D = none → ∃ W : Nat → Nat → Hp → Prop, (∃ n, W 0 n (upd Ha D (.dT []))) ∧
  ∀ j n Hb, W j n Hb → (J.stop j Hb ∧ Q (.ref D) Hb) ∨ (J.go j Hb ∧ ∃ Nx : Hp → Prop, (∀ Hc, Nx Hc → ∃ n', n' < n ∧ W (j + 1) n' Hc) ∧ ∀ x Hc, J.yld j Hb x Hc → turnT g tt tk tv σ vs D Nx x Hc)
section
variable {X : Cx}
theorem run_dt {pn : List (Addr × Obj)} {s : Shared} {σ : L2.St} {H : Hp} {Q : VK} {ke ve tg src : Expr} {conds : List Expr} {sc : Scope} {own : List (Str × Nat)} {po po' : Pos} {wi : TI} {g : TG} {tt : TT} {tk tv : TE} {use : Option (Value → Sem Unit)} {Fi : Value → Shared → Prop}
    (hu : X.A.units + 1 < cLine) (calm : X.calm = true) (nod : X.N.Nodup) (I : Inv X pn σ H s) (walks : PI X tg src wi) (blk : BlkOk X.N X.env.scope sc own)
    (rg : ∀ (s : Shared) (H : Hp) (C : Addr) (cl : List (Str × Addr)) (fp : List Addr), PG (X.blk s H sc (compEnvC sc cl C X.env) fp) tg g) (rt : ∀ (s : Shared) (H : Hp) (C : Addr) (cl : List (Str × Addr)) (fp : List Addr), PTs (X.blk s H sc (compEnvC sc cl C X.env) fp) conds tt)
    (rk : ∀ (s : Shared) (H : Hp) (C : Addr) (cl : List (Str × Addr)) (fp : List Addr), PE (X.blk s H sc (compEnvC sc cl C X.env) fp) ke tk) (rv : ∀ (s : Shared) (H : Hp) (C : Addr) (cl : List (Str × Addr)) (fp : List Addr), PE (X.blk s H sc (compEnvC sc cl C X.env) fp) ve tv)
    (fold : ∀ x, foldedSetIterable src X.env x = pure x) (asks : tDt wi g tt tk tv (own.map (·.2)) σ H Q)
    (last : ∀ D C s' m H', Inv X pn σ H' s' → Q (.ref D) H' → s'.heap.Ns C m → FpOk X pn H' C → compPost (model X.prog X.w) X.A X.xe use Fi (.ref D) C (.ok .next) s') :
    wpAny (model X.prog X.w) X.A (comprehension (.DictComp ke ve [⟨tg, src, conds, 0⟩] sc po) sc X.env po' newDict false (eval src X.env) use) Fi X.xe s := by
  have freeOk : ∀ y ∈ sc.names, y.2 = .free → ∃ c, X.env.cells.lookup y.1 = some c := fun y hy e => (blk.free y hy e).elim (fun k => I.ok.has _ (.inl k)) fun k => I.ok.has _ (.inr k)
  refine wpAny_comprehension_free (use := use) rfl fold (closure_ok freeOk) blk.kind (fun y hy e => by rw [blk.uniq y hy, e]) (thn (walks.run pn s σ H _ I asks) fun _ sa ha => thn ha fun _ sb hb => ?_)
  obtain ⟨it, fp, tn, J, Hb, rfl, Ib, T, stb, fpb, q⟩ := hb
  refine wpAny_newObj_type (newEnv_comp ?_)
  -- the new dict
  have freeD : Hb sb.heap.objs.size = none := Ib.hok.fresh (Nat.le_refl _)
  obtain ⟨W, ⟨n0, w0⟩, turns⟩ := q _ freeD
  have Ic : Inv X pn σ (upd Hb sb.heap.objs.size (.dT [])) { sb with heap := sb.heap.push { cls := .type "dict", data := .dict #[] } } := Ib.laid (t' := sb.toks) (fun _ _ e => Heap.get?_push_of_some _ e) (Nat.le_refl _) (dt_empty sb.heap Ib.big)
  generalize eD : sb.heap.objs.size = D at freeD w0 turns Ic ⊢
  generalize ec : ({ sb with heap := sb.heap.push { cls := .type "dict", data := .dict #[] } } : Shared) = c at Ic
  have hc : c.heap = sb.heap.push { cls := .type "dict", data := .dict #[] } := by rw [← ec]
  have below : ∀ b ∈ fp, b < D := fun b hb => by
    obtain ⟨o, e, _⟩ := T.obj _ _ stb b hb
    rw [← eD]
    exact Heap.lt_size e
  generalize eH : upd Hb D (.dT []) = Hc at Ic w0
  have fpc : ∀ b ∈ fp, FpOk X pn Hc b ∧ b < c.heap.objs.size := fun b hb => by
    have lt := below b hb
    refine ⟨⟨?_, (fpb b hb).2⟩, ?_⟩
    · rw [← eH, upd_ne (Nat.ne_of_lt lt)]
      exact (fpb b hb).1
    · rw [hc, Heap.size_push, eD]
      exact Nat.lt_succ_of_lt lt
  have stc : tn 0 c.heap := T.keep _ _ _ stb fun b _ o e => by
    rw [hc]
    exact Heap.get?_push_of_some _ e
  have Id := block_start Ic blk nod fpc
  -- the block
  generalize eE : compEnvC sc (cellsFrom (c.heap.objs.size + 1) sc.names (cloFrom X.env.cells sc.names [])) c.heap.objs.size X.env = en at Id
  have pg : PG (X.blk c Hc sc en fp) tg g := eE ▸ rg c Hc _ _ fp
  have pt : PTs (X.blk c Hc sc en fp) conds tt := eE ▸ rt c Hc _ _ fp
  have pk : PE (X.blk c Hc sc en fp) ke tk := eE ▸ rk c Hc _ _ fp
  have pv' : PE (X.blk c Hc sc en fp) ve tv := eE ▸ rv c Hc _ _ fp
  have locs : en.locals = c.heap.objs.size := by rw [← eE]; rfl
  have quiet : ∀ b ∈ fp, Hc b = none := fun b hb => (fpc b hb).1.1
  generalize ed : ({ c with heap := pushCells (c.heap.push { cls := .type "dict", data := .dict #[] }) sc.names } : Shared) = d at Id
  have std : tn 0 d.heap := T.keep _ _ _ stc fun b _ o e => by
    rw [← ed]
    exact pushCells_keeps _ _ _ _ (Heap.get?_push_of_some _ e)
  have fpIn : ∀ {σ' : L2.St} {H' : Hp} {s' : Shared}, Inv (X.blk c Hc sc en fp) [] σ' H' s' → (∀ b ∈ fp, H' b = none) → ∀ b ∈ fp, FpOk (X.blk c Hc sc en fp) [] H' b := fun I' q b hb =>
    ⟨q b hb, (I'.ok.exf b hb).1, I'.ok.exfs b hb, .inl hb, fun x y e => (I'.ok.exf b hb).2 x y e, fun p hp => absurd (show p ∈ ([] : List (Addr × Obj)) ++ [] from hp) (by simp)⟩
  have goes : codeAny (model X.prog X.w) X.A (.compLoop (.DictComp ke ve [⟨tg, src, conds, 0⟩] sc po) 0 (.ref it) (.ref D) en) (compPost (model X.prog X.w) X.A X.xe use Fi (.ref D) c.heap.objs.size) d := by
    refine compLoop_anyD (fun n s' => ∃ j H', Inv (X.blk c Hc sc en fp) [] (wipe σ (own.map (·.2))) H' s' ∧ tn j s'.heap ∧ (∀ b ∈ fp, H' b = none) ∧ W j n H') (fun n s5 hs5 => ?_) n0 ⟨0, Hc, Id, std, quiet, w0⟩
    obtain ⟨j, H5, I5, st5, n5, w5⟩ := hs5
    rcases turns j n H5 w5 with ⟨over, qq⟩ | ⟨on, Nx, next, step⟩
    · refine thnF (T.done (X.blk c Hc sc en fp) rfl rfl rfl calm j [] s5 _ H5 (fun _ _ => False) I5 (fpIn I5 n5) st5 over) fun r s6 h6 => ?_
      obtain ⟨rfl, I6⟩ := h6
      have outer : Inv X pn σ H5 s6 := Ic.call' (ch := fp) I6.os I6.base I6.hok I6.bare fun b hb => by
        obtain ⟨⟨k0, k1, k2, k3, k4, k5⟩, _⟩ := fpc b hb
        exact ⟨k3, k1, k4, k5⟩
      have nL : H5 c.heap.objs.size = none := by
        rw [← locs]
        exact I6.free
      obtain ⟨m, hm, _⟩ := I6.loc
      have hm' : s6.heap.Ns c.heap.objs.size m := by
        rw [← locs]
        exact hm
      exact last D _ s6 m H5 outer qq hm' (Ic.fpOk (Nat.le_refl _) nL)
    · refine thnF (T.item (X.blk c Hc sc en fp) rfl rfl rfl calm j [] s5 _ H5 (fun _ _ => False) I5 (fpIn I5 n5) st5 on) fun r s6 h6 => ?_
      obtain ⟨u, rfl, h6⟩ := h6
      refine thnF h6 fun _ s7 h7 => ?_
      obtain ⟨x, H7, I7, r7, y7, st7, n7⟩ := h7
      refine thnF (pg.run _ s7 _ H7 x u _ (I7.pinned (fpIn I7 n7) (T.obj _ _ st7)) r7 (step x H7 y7)) fun _ s8 h8 => ?_
      obtain ⟨σ8, H8, I8, wip, q8⟩ := h8
      have over : ∀ {s' : Shared} {H' : Hp}, Inv (X.blk c Hc sc en fp) ([] ++ pinsAt fp s7.heap) σ8 H' s' → Nx H' → ∃ m, m < n ∧ ∃ j H', Inv (X.blk c Hc sc en fp) [] (wipe σ (own.map (·.2))) H' s' ∧ tn j s'.heap ∧ (∀ b ∈ fp, H' b = none) ∧ W j m H' := by
        intro s' H' I' nx
        obtain ⟨m', lt, w'⟩ := next H' nx
        have pinned : ∀ b ∈ fp, ∀ o, s7.heap.get? b = some o → s'.heap.get? b = some o ∧ H' b = none := fun b hb o e => by
          have z := I'.pin (b, o) (List.mem_append_right _ (List.mem_append_right _ (mem_pinsAt hb e)))
          exact ⟨z.1, z.2.1⟩
        refine ⟨m', lt, j + 1, H', (I'.unpinned (pins := [])).weak ?_ ?_, T.keep _ _ _ st7 fun b hb o e => (pinned b hb o e).1, fun b hb => ?_, w'⟩
        · rw [← wip, wipe_length]
        · intro i v e
          rw [← wip] at e
          exact (wipe_some e).1
        · obtain ⟨o, e, _⟩ := T.obj _ _ st7 b hb
          exact (pinned b hb o e).2
      refine thnF (pt.run _ s8 σ8 H8 _ I8 q8) fun b s9 h9 => ?_
      obtain ⟨H9, I9, q9⟩ := h9
      cases b with
      | false =>
        rw [if_neg Bool.false_ne_true] at q9 ⊢
        exact over I9 q9
      | true =>
        rw [if_pos rfl] at q9 ⊢
        refine thnF (pk.run _ s9 σ8 H9 _ I9 q9) fun _ s10 h10 => ?_
        obtain ⟨yk, H10, I10, r10, q10⟩ := h10
        refine thnF (pv'.run _ s10 σ8 H10 _ I10 q10) fun _ s11 h11 => ?_
        obtain ⟨yv, H11, I11, r11, Hf, put, nx⟩ := h11
        exact run_putT (X := X.blk c Hc sc en fp) hu I11 put r10 r11 fun s12 I12 => over I12 nx
  subst eE
  exact codeAny_compStart_dict goes (T.self X.A 0 _ _ _ std goes)
/-- such a comprehension as a value -/
theorem pe_dt {ke ve tg src : Expr} {conds : List Expr} {sc : Scope} {own : List (Str × Nat)} {po : Pos} {wi : TI} {g : TG} {tt : TT} {tk tv : TE} (hu : X.A.units + 1 < cLine) (calm : X.calm = true) (nod : X.N.Nodup) (walks : PI X tg src wi) (blk : BlkOk X.N X.env.scope sc own)
    (rg : ∀ (s : Shared) (H : Hp) (C : Addr) (cl : List (Str × Addr)) (fp : List Addr), PG (X.blk s H sc (compEnvC sc cl C X.env) fp) tg g) (rt : ∀ (s : Shared) (H : Hp) (C : Addr) (cl : List (Str × Addr)) (fp : List Addr), PTs (X.blk s H sc (compEnvC sc cl C X.env) fp) conds tt)
    (rk : ∀ (s : Shared) (H : Hp) (C : Addr) (cl : List (Str × Addr)) (fp : List Addr), PE (X.blk s H sc (compEnvC sc cl C X.env) fp) ke tk) (rv : ∀ (s : Shared) (H : Hp) (C : Addr) (cl : List (Str × Addr)) (fp : List Addr), PE (X.blk s H sc (compEnvC sc cl C X.env) fp) ve tv)
    (fold : ∀ x, foldedSetIterable src X.env x = pure x := by intro _; rfl) : PE X (.DictComp ke ve [⟨tg, src, conds, 0⟩] sc po) (tDt wi g tt tk tv (own.map (·.2))) := by
  constructor
  intro pn s σ H Q I asks
  rw [arm_eval_DictComp]
  refine run_dt hu calm nod I walks blk rg rt rk rv fold asks fun D C s' m H' I' q hm f => ⟨m, hm, fun g2 sb => ?_⟩
  obtain ⟨k0, k1, k2, k3, k4, k5⟩ := f
  exact ⟨.ref D, H', I'.turned (t' := s'.toks) (fun b o hb e => (sb.2 b hb).trans e) k0 k1 k3 k4 k5, rfl, q⟩
end
/-- over any walk -/
theorem dt_it {J : It} {n : Nat} {G : Hp → Prop} {Y : Nat → Hp → V → Hp → Prop} (w : Walk J n G Y) {g : TG} {tt : TT} {tk tv : TE} {vs : List Nat} {σ : L2.St} {Ha : Hp} {D : Addr} {Qd : Hp → Prop} (Pv : Nat → Hp → Prop) (zero : Pv 0 (upd Ha D (.dT []))) (stand : ∀ i H, i ≤ n → Pv i H → G H)
    (turn : ∀ i x H H', i < n → Pv i H → Y i H x H' → turnT g tt tk tv σ vs D (Pv (i + 1)) x H') (last : ∀ H, Pv n H → Qd H) :
    ∃ W : Nat → Nat → Hp → Prop, (∃ m, W 0 m (upd Ha D (.dT []))) ∧ ∀ j m Hb, W j m Hb → (J.stop j Hb ∧ Qd Hb) ∨ (J.go j Hb ∧ ∃ Nx : Hp → Prop, (∀ Hc, Nx Hc → ∃ n', n' < m ∧ W (j + 1) n' Hc) ∧ ∀ x Hc, J.yld j Hb x Hc → turnT g tt tk tv σ vs D Nx x Hc) := by
  refine ⟨fun j m Hb => m = n - j ∧ j ≤ n ∧ Pv j Hb, ⟨n, rfl, Nat.zero_le _, zero⟩, ?_⟩
  rintro j m Hb ⟨rfl, le, p⟩
  have q := stand j Hb le p
  rcases Nat.lt_or_eq_of_le le with lt | rfl
  · exact .inr ⟨w.goes j Hb lt q, Pv (j + 1), fun Hc p' => ⟨n - (j + 1), by omega, rfl, lt, p'⟩, fun x Hc y => turn j x Hb Hc lt p (w.yields j Hb x Hc lt q y)⟩
  · exact .inl ⟨w.stops Hb q, last Hb p⟩
end DR

namespace DR
open PySem PySem.Spec PyProof.Rows L2
/-- y = {k: v for ..}, the keys tuples, y a local name -/
theorem ps_setDt {X : Cx} {i : Nat} {y : Str} {py : Pos} {ke ve tg src : Expr} {conds : List Expr} {sc : Scope} {own : List (Str × Nat)} {po spo : Pos} {wi : TI} {g : TG} {tt : TT} {tk tv : TE} (hu : X.A.units + 1 < cLine) (calm : X.calm = true) (nod : X.N.Nodup) (slot : X.N[i]? = some y) (isLoc : X.env.scope.names.lookup y = some .local)
    (sw : swapsWith (.DictComp ke ve [⟨tg, src, conds, 0⟩] sc po) (some (.Name y py)) spo.line X.env = pure true) (walks : PI X tg src wi) (blk : BlkOk X.N X.env.scope sc own)
    (rg : ∀ (s : Shared) (H : Hp) (C : Addr) (cl : List (Str × Addr)) (fp : List Addr), PG (X.blk s H sc (compEnvC sc cl C X.env) fp) tg g) (rt : ∀ (s : Shared) (H : Hp) (C : Addr) (cl : List (Str × Addr)) (fp : List Addr), PTs (X.blk s H sc (compEnvC sc cl C X.env) fp) conds tt)
    (rk : ∀ (s : Shared) (H : Hp) (C : Addr) (cl : List (Str × Addr)) (fp : List Addr), PE (X.blk s H sc (compEnvC sc cl C X.env) fp) ke tk) (rv : ∀ (s : Shared) (H : Hp) (C : Addr) (cl : List (Str × Addr)) (fp : List Addr), PE (X.blk s H sc (compEnvC sc cl C X.env) fp) ve tv)
    (fold : ∀ x, foldedSetIterable src X.env x = pure x := by intro _; rfl) : PS X (.Assign [.Name y py] (.DictComp ke ve [⟨tg, src, conds, 0⟩] sc po) spo) (tAsg (tDt wi g tt tk tv (own.map (·.2))) (gName i)) := by
  constructor
  intro pn s σ H D I want
  rw [exec_Assign_Name_used _ _ _ _ sw]
  refine wpAny_bind (wpAny_standAt (wpAny_bind ?_))
  show wpAny _ X.A (do let _ ← comprehension (.DictComp ke ve [⟨tg, src, conds, 0⟩] sc po) sc X.env (firstIterPos [⟨tg, src, conds, 0⟩] po) newDict false (eval src X.env) (some (assign (.Name y py) X.env))) _ _ s
  have want' : tDt wi g tt tk tv (own.map (·.2)) σ H (fun x H1 => gName i x σ H1 D.nx) := want
  refine wpAny_bind (thn (run_dt (Fi := fun _ s' => SP X pn D .next s') hu calm nod I walks blk rg rt rk rv fold want' fun L C s' m H' I' q hn ff => ?_) fun _ s' hq => wpAny_pure (wpAny_pure hq))
  show wpAny _ _ (assign (.Name y py) X.env (.ref L)) _ _ _
  refine wpAny_assign_Name (store_ok2 (v := V.ref L) I' nod slot (.inl isLoc) rfl (fun s2 I2 there => ?_) (.inr isLoc))
  obtain ⟨a, sb, ha⟩ := there
  have ⟨u0, u1, u2, u3, u4, u5⟩ := ff
  have apart : C ≠ a := by
    rcases ha with z | z
    · exact fun e => u1 (e.trans z)
    · exact fun e => u4 y a z e.symm
  exact ⟨m, hn.sameBut sb apart, fun h3 sb3 => ⟨_, H', I2.turned (t' := s2.toks) (fun b o hb e => (sb3.2 b hb).trans e) u0 u1 u3 u4 u5, q⟩⟩
theorem sw_dt {ke ve : Expr} {gs : List Comprehension} {sc : Scope} {po py : Pos} {y : Str} {l : Nat} {env : Env} (isF : env.scope.kind = .function) (isL : env.scope.names.lookup y = some .local) (line : (py.line == po.line) = true)
    (not : (sc.names.any fun (n, k) => n == y && (k == .local || k == .cell)) = false) : swapsWith (.DictComp ke ve gs sc po) (some (.Name y py)) l env = pure true := by
  have k1 : env.kindOf y = some .local := isL
  have k2 : env.blockKind = .function := by
    unfold Env.blockKind
    rw [isF]
    rfl
  unfold swapsWith
  simp only [k2, k1, not, Expr.pos, line]
  rfl
end DR

namespace DR
open PySem PySem.Spec PyProof.Rows L2
/-! ### products of great numbers -/
def Sz (i : Int) : Prop := i.natAbs < 2 ^ 200
theorem sz_mul {i j : Int} (a : Sz i) (b : Sz j) : IntMulOk i j := .of_le (intBits_le_iff.mpr a) (intBits_le_iff.mpr b) (by decide)
theorem op_mulS {X : Cx} : OpR X (binaryOp .Mult) (rI (fun i j => Sz i ∧ Sz j) fun i j => .int (i * j)) := opI fun _ _ _ _ _ _ _ hc q => mul_int q (sz_mul hc.1 hc.2)
/-! ### sums of the program -/
def plusA (l m : Mul) : Mul := m.foldl (fun a q => addP a q.1 q.2) l
theorem vKv_len (l : Mul) : (vKv l).length = l.length := List.length_map ..
theorem plusA_len : ∀ (m l : Mul), (plusA l m).length ≤ l.length + m.length
  | [], l => Nat.le_refl _
  | q :: m, l => by
    show (plusA (addP l q.1 q.2) m).length ≤ _
    refine Nat.le_trans (plusA_len m _) ?_
    have := addP_len l q.1 q.2
    rw [List.length_cons]
    omega
theorem plusA_nm : ∀ {m l : Mul}, (∀ u ∈ m.map (·.1), NmU u) → (∀ u ∈ l.map (·.1), NmU u) → ∀ u ∈ (plusA l m).map (·.1), NmU u
  | [], l, _, h => h
  | q :: m, l, hm, h => by
    show ∀ u ∈ (plusA (addP l q.1 q.2) m).map (·.1), NmU u
    exact plusA_nm (fun u hu => hm u (List.mem_cons_of_mem _ hu)) (addP_keys h (hm q.1 (List.mem_cons_self ..)))
theorem take_not {α : Type} {l : List α} {i : Nat} {a : α} (nd : l.Nodup) (h : l[i]? = some a) : a ∉ l.take i := by
  intro hm
  obtain ⟨j, hj, ej⟩ := List.mem_iff_getElem.mp hm
  have hj2 : j < i := by
    rw [List.length_take] at hj
    omega
  have hi : i < l.length := (List.getElem?_eq_some_iff.mp h).1
  have e1 : l[i] = a := (List.getElem?_eq_some_iff.mp h).2
  have e2 : l[j] = a := by rw [← ej, List.getElem_take]
  exact List.pairwise_iff_getElem.mp nd j i (by omega) hi hj2 (e2.trans e1.symm)
theorem part_get {H : Hp} {xs : List V} {ps : Mul} (h : PySem.W.EachIs (PartT H) xs ps) {i : Nat} {x : V} (hx : xs[i]? = some x) : ∃ u m c e, ps[i]? = some (u, m) ∧ x = .ref c ∧ H c = some (.tup [.ref e, .int m]) ∧ H e = some (.tup (u.map kV)) := by
  obtain ⟨⟨u, m⟩, h1, c, e, h2, h3, h4⟩ := eachs_get h hx
  exact ⟨u, m, c, e, h1, h2, h3, h4⟩
theorem put_new {l : Mul} {u : List Key} (m : Int) (h : u ∉ l.map (·.1)) : putI l u m = l ++ [(u, m)] := putI_out m h
theorem sumT_not_non {H : Hp} {v : V} {n : Int} {ps : Mul} (h : SumT H v n ps) : decide (v = .non) = false := by
  obtain ⟨a, b, xs, rfl, _⟩ := h
  rfl
def scal (k : Int) (l : Mul) : Mul := l.map fun q => (q.1, k * q.2)
theorem scal_len (k : Int) (l : Mul) : (scal k l).length = l.length := List.length_map ..
theorem scal_keys (k : Int) (l : Mul) : (scal k l).map (·.1) = l.map (·.1) := by
  unfold scal
  rw [List.map_map]
  rfl
theorem scal_nm {k : Int} {l : Mul} (h : ∀ u ∈ l.map (·.1), NmU u) : ∀ u ∈ (scal k l).map (·.1), NmU u := by
  rw [scal_keys]
  exact h
/-- two sums that can be put together, k times the second -/
structure FitT (ps : Mul) (k m : Int) (qs : Mul) : Prop where
  nd : NodK ps
  n1 : ∀ q ∈ ps.map (·.1), NmU q
  n2 : ∀ q ∈ qs.map (·.1), NmU q
  l1 : ps.length ≤ 400
  l2 : qs.length ≤ 400
  zk : Sz k
  zm : Sz m
  zq : ∀ q ∈ qs, Sz q.2
def spTimes (K : PySem.W.Frag) : Sp := fun vs H Q _ => ∃ (v u : V) (n m k : Int) (ps qs : Mul), vs = [v, u, .int k] ∧ SumT H v n ps ∧ SumT H u m qs ∧ FitT ps k m qs ∧
  ∀ v' H', Same H H' → SumT H' v' (n + k * m) (form (plusA ps (scal k qs))) → Q v' H'
abbrev sTimes : Stmt := topS 18
theorem scTimes : FnScope ["one", "other", "many", "unknown", "multiple", "multiples"] ["one", "other", "many"] (defScope sTimes) := ⟨rfl, rfl, rfl, by decide +kernel, rfl, by decide +kernel, by decide +kernel⟩
section
variable {P : Program} {w : World} {K : PySem.W.Frag} {mg : Str → Option Value} {base : Heap}
theorem ok_times {f : Addr} {fd : FuncData} (F : Fun K "with_times" "with_times" sTimes f fd) (G : Has P w K mg base CX0 3 "one_form" ["number", "multiples"] (spOneForm K)) : FnOk P w K mg base CX0 4 f fd ["one", "other", "many"] (spTimes K) := by
  refine F.ok scTimes (fun vs H Q E h => ?_) (fun cdv A outer s H vs Q E hr h => ?_)
  · obtain ⟨v, u, n, m, k, ps, qs, rfl, _⟩ := h
    rfl
  · obtain ⟨v, u, n, m, k, ps, qs, rfl, ⟨a, b, xs, rfl, ha, hb, hxs⟩, ⟨a2, b2, ys, rfl, ha2, hb2, hys⟩, ⟨nd, nm1, nm2, f1, f2, zk, zm, zq⟩, q⟩ := h
    have hu := hu_of hr
    refine ⟨_, (pss_cons (ps_setDt (i := 5) (own := [("unknown", 3), ("multiple", 4)]) (g := gTup K 2 (gCons (gName 3) (gCons (gName 4) gNil))) (tt := tYes) (tk := tVar 3) (tv := tVar 4) hu rfl scTimes.nd rfl rfl (sw_dt rfl rfl rfl (by decide +kernel)) (pi_tup (pe_ix ix_tup (pv 0) pe_int (fun _ _ => rfl))) (blkOk_by (N := ["one", "other", "many", "unknown", "multiple", "multiples"]) (sc := defScope sTimes) (by decide +kernel))
        (fun _ _ _ _ _ => (pg_tup rfl (pgs_cons (pg_name (i := 3) scTimes.nd rfl (.inl rfl) (.inr rfl)) (pgs_cons (pg_name (i := 4) scTimes.nd rfl (.inl rfl) (.inr rfl)) pgs_nil)))) (fun _ _ _ _ _ => pts_nil) (fun _ _ _ _ _ => pv 3) (fun _ _ _ _ _ => pv 4))
      (pss_cons (ps_for PassesOwn.never rfl (pi_tup (pe_ix ix_tup (pv 1) pe_int (fun _ _ => rfl))) (pg_tup rfl (pgs_cons (pg_name (i := 3) scTimes.nd rfl (.inl rfl)) (pgs_cons (pg_name (i := 4) scTimes.nd rfl (.inl rfl)) pgs_nil)))
        (pss_one (ps_dput hu (pv 5) (pv 3) (pe_op op_add (pe_dget2 hu (pv 5) (pv 3) pe_int ⟨rfl, rfl, rfl, rfl⟩) (pe_op op_mulS (pv 2) (pv 4))) rfl)))
      (pss_one (ps_ret (pe_callH G hr (by rfl) pass0 (pa_cons (pe_op op_add (pe_ix ix_tup (pv 0) pe_int (fun _ _ => rfl)) (pe_op op_mulS (pv 2) (pe_ix ix_tup (pv 1) pe_int (fun _ _ => rfl)))) (pa_cons (pv 5) pa_nil))))))), ?_⟩
    have lx : xs.length = ps.length := hxs.length
    have ly : ys.length = qs.length := hys.length
    refine ⟨_, rfl, a, _, _, _, rfl, rfl, SqT.of ha, at_of (i := 1) rfl, b, rfl, ⟨_, SqT.of hb⟩, fun D hD => ?_⟩
    refine dt_it walk_tup (fun i H4 => (∀ c o, c ≠ D → H c = some o → H4 c = some o) ∧ H4 D = some (.dT (vKv (ps.take i)))) ⟨fun c o hc e => by rw [upd_ne hc]; exact e, upd_same⟩ (fun i H4 _ ⟨kp, _⟩ => SqT.of (kp _ _ (ne_of_none hb hD) hb)) ?_ ?_
    · rintro i x H4 H4' hi ⟨kp, hD4⟩ ⟨rfl, hx⟩
      obtain ⟨u, mm, c, e, hum, rfl, hc, he⟩ := part_get hxs hx
      have hi2 : i < ps.length := (List.getElem?_eq_some_iff.mp hum).1
      have he4 := kp _ _ (ne_of_none he hD) he
      refine ⟨c, _, rfl, SqT.of (kp _ _ (ne_of_none hc hD) hc), rfl, _, _, rfl, _, _, rfl, rfl, rfl, yes_go (iteT ?_)⟩
      refine ⟨_, rfl, _, rfl, _, ⟨_, u, e, hD4, rfl, he4, ?_, rfl⟩, fun c' o hc' ec => ?_, ?_⟩
      · rw [vKv_len, List.length_take]
        exact small1000 (by omega)
      · rw [upd_ne hc']
        exact kp c' o hc' ec
      · rw [upd_same, put_vKv, List.take_add_one, hum, put_new]
        · rfl
        · have nd2 : (ps.map (·.1)).Nodup := nd
          have hn := take_not nd2 (i := i) (a := u) (by rw [List.getElem?_map, hum]; rfl)
          rw [← List.map_take] at hn
          exact hn
    · rintro H4 ⟨kp, hD4⟩
      rw [lx, List.take_length] at hD4
      have s4 : Same H H4 := fun c o e => kp c o (ne_of_none e hD) e
      refine ⟨_, rfl, a2, _, _, _, rfl, rfl, SqT.of (s4 _ _ ha2), at_of (i := 1) rfl, b2, rfl, ⟨_, SqT.of (s4 _ _ hb2)⟩, ?_⟩
      refine for_it walk_tup (fun i σ H5 => ∃ (w1 w2 : Option V), σ = [some (.ref a), some (.ref a2), some (.int k), w1, w2, some (.ref D)] ∧ Same H H5 ∧ H5 D = some (.dT (vKv (plusA ps (scal k (qs.take i))))))
        ⟨none, none, rfl, s4, hD4⟩ (fun i σ H5 _ ⟨_, _, _, s5, _⟩ => SqT.of (s5 _ _ hb2)) ?_ ?_
      · rintro i x σ H5 H5' hi ⟨w1, w2, rfl, s5, hD5⟩ ⟨rfl, hx⟩
        obtain ⟨u, mm, c, e, hum, rfl, hc, he⟩ := part_get hys hx
        have hi2 : i < qs.length := (List.getElem?_eq_some_iff.mp hum).1
        refine ⟨c, _, rfl, SqT.of (s5 _ _ hc), rfl, _, _, rfl, _, _, rfl, rfl, ?_⟩
        refine ⟨_, rfl, D, rfl, .inr ⟨_, .inl hD5⟩, _, rfl, _, DGet.t hD5 (s5 _ _ he), _, rfl, _, rfl, k, mm, rfl, rfl, ⟨zk, zq _ (List.mem_of_getElem? hum)⟩, getI (plusA ps (scal k (qs.take i))) u, k * mm, getD_val _ u, rfl, ?_⟩
        have al := plusA_len (scal k (qs.take i)) ps
        rw [scal_len, List.length_take] at al
        refine ⟨_, rfl, _, rfl, D, _, rfl, DPut.t hD5 (s5 _ _ he) (by
          rw [vKv_len]
          exact small1000 (by omega)), ?_⟩
        rw [put_vKv]
        refine ⟨_, _, rfl, fun b' o' eb => ?_, ?_⟩
        · rw [upd_ne (ne_of_none eb hD)]
          exact s5 _ _ eb
        · rw [upd_same, List.take_add_one, hum]
          unfold plusA scal
          rw [List.map_append, List.foldl_append]
          rfl
      · rintro σ H5 ⟨w1, w2, rfl, s5, hD5⟩
        rw [ly, List.take_length] at hD5
        have al := plusA_len (scal k qs) ps
        rw [scal_len] at al
        refine ⟨_, rfl, a, _, _, _, rfl, rfl, SqT.of (s5 _ _ ha), at_of (i := 0) rfl, _, rfl, _, rfl, a2, _, _, _, rfl, rfl, SqT.of (s5 _ _ ha2), at_of (i := 0) rfl, k, m, rfl, rfl, ⟨zk, zm⟩, n, k * m, rfl, rfl, _, rfl, n + k * m, D, _, rfl, hD5, plusA_nm (scal_nm nm2) nm1, by omega, fun v' H6 s6 hv => q v' H6 (s5.trans s6) ?_⟩
        exact hv
end
end DR

namespace DR
open PySem PySem.Spec PyProof.Rows L2
/-! ### sum_of, plus, minus, times -/
/-- v is no sum: BadSum keeps it -/
def NoSum (CS : Addr) (H : Hp) (v : V) (E : XK) : Prop := ∀ H' dx, Same H H' → H' dx = none → E (.ref CS) (some dx) (upd H' dx (.xd [("thing", v)]))
theorem noSum_same {CS : Addr} {H H1 : Hp} {v : V} {E : XK} (e : Same H H1) (h : NoSum CS H v E) : NoSum CS H1 v E := fun H' dx s n => h H' dx (e.trans s) n
def spSumOf (K : PySem.W.Frag) (CS : Addr) : Sp := fun vs H Q E => ∃ v d, vs = [v] ∧ Th K H v d ∧ okSum d ∧ (∀ n ps, readSum d = some (n, ps) → ∀ v' H', Same H H' → SumT H' v' n ps → Q v' H') ∧ (readSum d = none → NoSum CS H v E)
/-- one and k times the other -/
def spBin (K : PySem.W.Frag) (CS : Addr) (k : Int) : Sp := fun vs H Q E => ∃ v u d e, vs = [v, u] ∧ Th K H v d ∧ okSum d ∧ (readSum d = none → NoSum CS H v E) ∧
  ∀ n ps, readSum d = some (n, ps) → Th K H u e ∧ okSum e ∧ (readSum e = none → NoSum CS H u E) ∧
    ∀ m qs, readSum e = some (m, qs) → FitT ps k m qs ∧ ∀ v' H', Same H H' → SumT H' v' (n + k * m) (form (plusA ps (scal k qs))) → Q v' H'
/-- as often as told -/
def spMult (K : PySem.W.Frag) (CS CN : Addr) : Sp := fun vs H Q E => ∃ v u d e, vs = [v, u] ∧ Th K H v d ∧ okSum d ∧ (readSum d = none → NoSum CS H v E) ∧
  ∀ n ps, readSum d = some (n, ps) → Th K H u e ∧ (isI e = false → ∀ H' dx, Same H H' → H' dx = none → E (.ref CN) (some dx) (upd H' dx (.xd [("number", u)]))) ∧
    ∀ k, e = .int k → FitT [] k n ps ∧ ∀ v' H', Same H H' → SumT H' v' (0 + k * n) (form (plusA [] (scal k ps))) → Q v' H'
abbrev sSumOf : Stmt := topS 17
abbrev sPlus : Stmt := topS 19
abbrev sMinus : Stmt := topS 20
abbrev sMult : Stmt := topS 21
theorem scSumOf : FnScope ["thing", "found"] ["thing"] (defScope sSumOf) := ⟨rfl, rfl, rfl, by decide +kernel, rfl, by decide +kernel, by decide +kernel⟩
theorem scPlus : FnScope ["one", "other", "first"] ["one", "other"] (defScope sPlus) := ⟨rfl, rfl, rfl, by decide +kernel, rfl, by decide +kernel, by decide +kernel⟩
theorem scMinus : FnScope ["one", "other", "first"] ["one", "other"] (defScope sMinus) := ⟨rfl, rfl, rfl, by decide +kernel, rfl, by decide +kernel, by decide +kernel⟩
theorem scMult : FnScope ["one", "number", "found"] ["one", "number"] (defScope sMult) := ⟨rfl, rfl, rfl, by decide +kernel, rfl, by decide +kernel, by decide +kernel⟩
theorem passE {X : Cx} {E : XK} (hx : Takes X fun cls d _ H => E cls d H) : Passes (L2.CX X.prog X.w) X E := passes_call (W := fun cls d _ H => E cls d H) hx (fun _ _ _ _ h => h)
section
variable {P : Program} {w : World} {K : PySem.W.Frag} {mg : Str → Option Value} {base : Heap}
theorem ok_sumOf {f CS : Addr} {fd : FuncData} (F : Fun K "sum_of" "sum_of" sSumOf f fd) (S : Err P w K mg base "BadSum" CS "thing") (G : Has P w K mg base CX0 4 "read_sum" ["thing"] (spReadSum K)) : FnOk P w K mg base (L2.CX P w) 5 f fd ["thing"] (spSumOf K CS) := by
  refine F.okX scSumOf (fun vs H Q E h => ?_) (fun cdv A outer s H vs Q E hr h => ?_)
  · obtain ⟨v, d, rfl, _⟩ := h
    rfl
  · obtain ⟨v, d, rfl, th, ok, q, qe⟩ := h
    refine ⟨_, (pss_cons (ps_set (i := 1) scSumOf.nd rfl (.inl rfl) (pe_callH G hr (by rfl) pass0 (pa_cons (pv 0) pa_nil)))
      (pss_cons (ps_if (pt_cmpR op_isN (pv 1) pe_non (nomark _)) (pss_one (ps_err rfl (takes_of rfl rfl rfl rfl) S hr (by decide) (pv 0))) pss_nil)
      (pss_one (ps_ret (pv 1))))), ?_⟩
    refine ⟨_, rfl, v, d, rfl, th, ok, fun v' H1 s1 hv => ⟨_, rfl, rfl, _, rfl, ?_⟩⟩
    cases e : readSum d with
    | none =>
      rw [e] at hv
      obtain rfl : v' = .non := hv
      exact iteT ⟨_, rfl, err_go fun dx hdx => qe e H1 dx s1 hdx⟩
    | some r =>
      obtain ⟨n, ps⟩ := r
      rw [e] at hv
      rw [sumT_not_non hv]
      exact iteF ⟨_, rfl, q n ps e v' H1 s1 hv⟩
theorem ok_plus {f CS : Addr} {fd : FuncData} (F : Fun K "plus" "plus" sPlus f fd) (G1 : Has P w K mg base (L2.CX P w) 5 "sum_of" ["thing"] (spSumOf K CS)) (G2 : Has P w K mg base CX0 5 "with_times" ["one", "other", "many"] (spTimes K)) :
    FnOk P w K mg base (L2.CX P w) 6 f fd ["one", "other"] (spBin K CS 1) := by
  refine F.okX scPlus (fun vs H Q E h => ?_) (fun cdv A outer s H vs Q E hr h => ?_)
  · obtain ⟨v, u, d, e, rfl, _⟩ := h
    rfl
  · obtain ⟨v, u, d, e, rfl, th, ok, qe, q⟩ := h
    refine ⟨_, (pss_cons (ps_set (i := 2) scPlus.nd rfl (.inl rfl) (pe_callH G1 hr (by rfl) (passE (E := E) (takes_of rfl rfl rfl rfl)) (pa_cons (pv 0) pa_nil)))
      (pss_one (ps_ret (pe_callH G2 hr (by rfl) pass0 (pa_cons (pv 2) (pa_cons (pe_callH G1 hr (by rfl) (passE (E := E) (takes_of rfl rfl rfl rfl)) (pa_cons (pv 1) pa_nil)) (pa_cons pe_int pa_nil))))))), ?_⟩
    refine ⟨_, rfl, v, d, rfl, th, ok, fun n ps e1 v1 H1 s1 h1 => ?_, qe⟩
    obtain ⟨th2, ok2, qe2, q2⟩ := q n ps e1
    refine ⟨_, rfl, _, rfl, u, e, rfl, th_same s1 th2, ok2, fun m qs e2 v2 H2 s2 h2 => ?_, fun z => noSum_same s1 (qe2 z)⟩
    obtain ⟨fit, q3⟩ := q2 m qs e2
    exact ⟨v1, v2, n, m, 1, ps, qs, rfl, sumT_s (TupS.of s2) h1, h2, fit, fun v' H' s3 h3 => q3 v' H' ((s1.trans s2).trans s3) h3⟩
theorem ok_minus {f CS : Addr} {fd : FuncData} (F : Fun K "minus" "minus" sMinus f fd) (G1 : Has P w K mg base (L2.CX P w) 5 "sum_of" ["thing"] (spSumOf K CS)) (G2 : Has P w K mg base CX0 5 "with_times" ["one", "other", "many"] (spTimes K)) :
    FnOk P w K mg base (L2.CX P w) 6 f fd ["one", "other"] (spBin K CS (-1)) := by
  refine F.okX scMinus (fun vs H Q E h => ?_) (fun cdv A outer s H vs Q E hr h => ?_)
  · obtain ⟨v, u, d, e, rfl, _⟩ := h
    rfl
  · obtain ⟨v, u, d, e, rfl, th, ok, qe, q⟩ := h
    refine ⟨_, (pss_cons (ps_set (i := 2) scMinus.nd rfl (.inl rfl) (pe_callH G1 hr (by rfl) (passE (E := E) (takes_of rfl rfl rfl rfl)) (pa_cons (pv 0) pa_nil)))
      (pss_one (ps_ret (pe_callH G2 hr (by rfl) pass0 (pa_cons (pv 2) (pa_cons (pe_callH G1 hr (by rfl) (passE (E := E) (takes_of rfl rfl rfl rfl)) (pa_cons (pv 1) pa_nil)) (pa_cons (pe_un un_neg pe_int) pa_nil))))))), ?_⟩
    refine ⟨_, rfl, v, d, rfl, th, ok, fun n ps e1 v1 H1 s1 h1 => ?_, qe⟩
    obtain ⟨th2, ok2, qe2, q2⟩ := q n ps e1
    refine ⟨_, rfl, _, rfl, u, e, rfl, th_same s1 th2, ok2, fun m qs e2 v2 H2 s2 h2 => ?_, fun z => noSum_same s1 (qe2 z)⟩
    obtain ⟨fit, q3⟩ := q2 m qs e2
    refine ⟨1, rfl, ?_⟩
    exact ⟨v1, v2, n, m, -1, ps, qs, rfl, sumT_s (TupS.of s2) h1, h2, fit, fun v' H' s3 h3 => q3 v' H' ((s1.trans s2).trans s3) h3⟩
theorem ok_mult {f CS CN : Addr} {fd : FuncData} (F : Fun K "times" "times" sMult f fd) (S : Err P w K mg base "BadNumber" CN "number") (G1 : Has P w K mg base (L2.CX P w) 5 "sum_of" ["thing"] (spSumOf K CS)) (G2 : Has P w K mg base CX0 5 "with_times" ["one", "other", "many"] (spTimes K))
    (G3 : Has P w K mg base CX0 5 "is_integer" ["thing"] (spIsInt K)) : FnOk P w K mg base (L2.CX P w) 6 f fd ["one", "number"] (spMult K CS CN) := by
  refine F.okX scMult (fun vs H Q E h => ?_) (fun cdv A outer s H vs Q E hr h => ?_)
  · obtain ⟨v, u, d, e, rfl, _⟩ := h
    rfl
  · obtain ⟨v, u, d, e, rfl, th, ok, qe, q⟩ := h
    refine ⟨_, (pss_cons (ps_set (i := 2) scMult.nd rfl (.inl rfl) (pe_callH G1 hr (by rfl) (passE (E := E) (takes_of rfl rfl rfl rfl)) (pa_cons (pv 0) pa_nil)))
      (pss_cons (ps_if (pt_not (pt_val (pe_callH G3 hr (by rfl) pass0 (pa_cons (pv 1) pa_nil)))) (pss_one (ps_err rfl (takes_of rfl rfl rfl rfl) S hr (by decide) (pv 1))) pss_nil)
      (pss_one (ps_ret (pe_callH G2 hr (by rfl) pass0 (pa_cons (pe_tup (pa_cons pe_int (pa_cons (pe_tup pa_nil) pa_nil))) (pa_cons (pv 2) (pa_cons (pv 1) pa_nil)))))))), ?_⟩
    refine ⟨_, rfl, v, d, rfl, th, ok, fun n ps e1 v1 H1 s1 h1 => ?_, qe⟩
    obtain ⟨th2, qe2, q2⟩ := q n ps e1
    refine ⟨_, rfl, u, e, rfl, th_same s1 th2, _, rfl, ?_⟩
    cases ei : isI e with
    | false => exact iteT ⟨_, rfl, err_go fun dx hdx => qe2 ei H1 dx s1 hdx⟩
    | true =>
      obtain ⟨k, rfl⟩ : ∃ k, e = .int k := by
        cases e with
        | int k => exact ⟨k, rfl⟩
        | _ => cases ei
      obtain ⟨fit, q3⟩ := q2 k rfl
      obtain rfl : u = .int k := by
        cases th2 with
        | dat h => cases h; rfl
      refine iteF ⟨(by show 0 ≤ sizeLine; decide), fun p1 n1 => ⟨(by show 2 ≤ sizeLine; decide), fun p2 n2 => ?_⟩⟩
      have t1 := same_new (o := .tup []) n1
      have t2 := same_new (o := .tup [V.int 0, V.ref p1]) n2
      have z0 : SumT (upd (upd H1 p1 (.tup [])) p2 (.tup [V.int 0, V.ref p1])) (.ref p2) 0 [] := ⟨p2, p1, [], rfl, upd_same, t2 _ _ upd_same, .nil⟩
      exact ⟨_, rfl, _, rfl, .ref p2, v1, 0, n, k, [], ps, rfl, z0, sumT_s (TupS.of (t1.trans t2)) h1, fit, fun v' H' s3 h3 => q3 v' H' (((s1.trans t1).trans t2).trans s3) h3⟩
end
end DR

namespace DR
open PySem PySem.Spec PyProof.Rows L2
/-! ### with_worths -/
/-- what an unknown is worth -/
abbrev Wo := List Key → Option (Int × Mul)
def worthOf (g : Wo) (u : List Key) : Int × Mul := (g u).getD (0, [(u, 1)])
def putG (g : Wo) (s : Int × Mul) (q : List Key × Int) : Int × Mul := (s.1 + q.2 * (worthOf g q.1).1, plusA s.2 (scal q.2 (worthOf g q.1).2))
def putsG (g : Wo) (n : Int) (l : Mul) : Int × Mul := l.foldl (putG g) (n, [])
structure Puts (g : Wo) (ps : Mul) : Prop where
  few : ps.length ≤ 25
  nm : ∀ q ∈ ps.map (·.1), NmU q
  sz : ∀ q ∈ ps, Sz q.2
  wl : ∀ u r, g u = some r → r.2.length ≤ 25 ∧ (∀ q ∈ r.2.map (·.1), NmU q) ∧ Sz r.1 ∧ ∀ q ∈ r.2, Sz q.2
theorem sz1 : Sz 1 := by unfold Sz; decide
theorem sz0 : Sz 0 := by unfold Sz; decide
theorem Puts.w {g : Wo} {ps : Mul} (h : Puts g ps) {u : List Key} (hu : NmU u) : (worthOf g u).2.length ≤ 25 ∧ (∀ q ∈ (worthOf g u).2.map (·.1), NmU q) ∧ Sz (worthOf g u).1 ∧ ∀ q ∈ (worthOf g u).2, Sz q.2 := by
  unfold worthOf
  cases e : g u with
  | some r => exact h.wl u r e
  | none =>
    refine ⟨(by show 1 ≤ 25; decide), fun q hq => ?_, sz0, fun q hq => ?_⟩
    · have : q = u := by simpa using hq
      rw [this]
      exact hu
    · have : q = (u, 1) := by simpa using hq
      rw [this]
      exact sz1
theorem putsG_len {g : Wo} {ps : Mul} (h : Puts g ps) : ∀ (l : Mul) (s : Int × Mul), (∀ q ∈ l, q ∈ ps) → (l.foldl (putG g) s).2.length ≤ s.2.length + 25 * l.length
  | [], s, _ => by simp
  | q :: l, s, hl => by
    rw [List.foldl_cons]
    refine Nat.le_trans (putsG_len h l _ fun x hx => hl x (List.mem_cons_of_mem _ hx)) ?_
    have hw := (h.w (h.nm q.1 (List.mem_map.mpr ⟨q, hl q (List.mem_cons_self ..), rfl⟩))).1
    have := plusA_len (scal q.2 (worthOf g q.1).2) s.2
    rw [scal_len] at this
    rw [List.length_cons]
    show (plusA s.2 _).length + _ ≤ _
    omega
theorem putsG_nm {g : Wo} {ps : Mul} (h : Puts g ps) : ∀ (l : Mul) (s : Int × Mul), (∀ q ∈ l, q ∈ ps) → (∀ u ∈ s.2.map (·.1), NmU u) → ∀ u ∈ (l.foldl (putG g) s).2.map (·.1), NmU u
  | [], s, _, hs => hs
  | q :: l, s, hl, hs => by
    rw [List.foldl_cons]
    refine putsG_nm h l _ (fun x hx => hl x (List.mem_cons_of_mem _ hx)) ?_
    exact plusA_nm (scal_nm (h.w (h.nm q.1 (List.mem_map.mpr ⟨q, hl q (List.mem_cons_self ..), rfl⟩))).2.1) hs
/-- what a dict of worths holds -/
def WorthsV (H : Hp) (kvs : List (List Key × V)) (g : Wo) : Prop := ∀ u, match valV kvs u with
  | some y => ∃ n ps, g u = some (n, ps) ∧ SumT H y n ps
  | none => g u = none
theorem worthsV_s {H H' : Hp} (e : TupS H H') {kvs : List (List Key × V)} {g : Wo} (h : WorthsV H kvs g) : WorthsV H' kvs g := fun u => by
  have := h u
  revert this
  cases valV kvs u with
  | none => exact id
  | some y => exact fun ⟨n, ps, a, b⟩ => ⟨n, ps, a, sumT_s e b⟩
def spWith (K : PySem.W.Frag) : Sp := fun vs H Q _ => ∃ (v : V) (n : Int) (ps : Mul) (d : Addr) (kvs : List (List Key × V)) (g : Wo), vs = [v, .ref d] ∧ SumT H v n ps ∧ H d = some (.dT kvs) ∧ WorthsV H kvs g ∧ Puts g ps ∧
  ∀ v' H', Same H H' → SumT H' v' (putsG g n ps).1 (form (putsG g n ps).2) → Q v' H'
abbrev sWith : Stmt := topS 23
theorem scWith : FnScope ["one", "worths", "number", "multiples", "unknown", "multiple", "worth", "inner", "many"] ["one", "worths"] (defScope sWith) := ⟨rfl, rfl, rfl, by decide +kernel, rfl, by decide +kernel, by decide +kernel⟩
section
variable {P : Program} {w : World} {K : PySem.W.Frag} {mg : Str → Option Value} {base : Heap}
theorem ok_with {f : Addr} {fd : FuncData} (F : Fun K "with_worths" "with_worths" sWith f fd) (G : Has P w K mg base CX0 3 "one_form" ["number", "multiples"] (spOneForm K)) : FnOk P w K mg base CX0 4 f fd ["one", "worths"] (spWith K) := by
  refine F.ok scWith (fun vs H Q E h => ?_) (fun cdv A outer s H vs Q E hr h => ?_)
  · obtain ⟨v, n, ps, d, kvs, g, rfl, _⟩ := h
    rfl
  · obtain ⟨v, n, ps, d, kvs, g, rfl, ⟨a, b, xs, rfl, ha, hb, hxs⟩, hd, hw, pu, q⟩ := h
    have hu := hu_of hr
    refine ⟨_, (pss_cons (ps_set (i := 2) scWith.nd rfl (.inl rfl) (pe_ix ix_tup (pv 0) pe_int (fun _ _ => rfl)))
      (pss_cons (ps_set (i := 3) scWith.nd rfl (.inl rfl) pe_dnewT)
      (pss_cons (ps_for PassesOwn.never rfl (pi_tup (pe_ix ix_tup (pv 0) pe_int (fun _ _ => rfl))) (pg_tup rfl (pgs_cons (pg_name (i := 4) scWith.nd rfl (.inl rfl)) (pgs_cons (pg_name (i := 5) scWith.nd rfl (.inl rfl)) pgs_nil)))
        (pss_cons (ps_set (i := 6) scWith.nd rfl (.inl rfl) (pe_dget2 hu (pv 1) (pv 4) (pe_tup (pa_cons pe_int (pa_cons (pe_tup (pa_cons (pe_tup (pa_cons (pv 4) (pa_cons pe_int pa_nil))) pa_nil)) pa_nil))) ⟨rfl, rfl, rfl, rfl⟩))
        (pss_cons (ps_aug (i := 2) scWith.nd rfl (.inl rfl) (pe_op op_mulS (pv 5) (pe_ix ix_tup (pv 6) pe_int (fun _ _ => rfl))) ip_add)
        (pss_one (ps_for PassesOwn.never rfl (pi_tup (pe_ix ix_tup (pv 6) pe_int (fun _ _ => rfl))) (pg_tup rfl (pgs_cons (pg_name (i := 7) scWith.nd rfl (.inl rfl)) (pgs_cons (pg_name (i := 8) scWith.nd rfl (.inl rfl)) pgs_nil)))
          (pss_one (ps_dput hu (pv 3) (pv 7) (pe_op op_add (pe_dget2 hu (pv 3) (pv 7) pe_int ⟨rfl, rfl, rfl, rfl⟩) (pe_op op_mulS (pv 5) (pv 8))) rfl)))))))
      (pss_one (ps_ret (pe_callH G hr (by rfl) pass0 (pa_cons (pv 2) (pa_cons (pv 3) pa_nil)))))))), ?_⟩
    refine ⟨_, rfl, a, _, _, _, rfl, rfl, SqT.of ha, at_of (i := 0) rfl, fun D hD => ?_⟩
    have s1 : Same H (upd H D (.dT [])) := same_new hD
    have lx : xs.length = ps.length := hxs.length
    refine ⟨_, rfl, a, _, _, _, rfl, rfl, SqT.of (s1 _ _ ha), at_of (i := 1) rfl, b, rfl, ⟨_, SqT.of (s1 _ _ hb)⟩, ?_⟩
    refine for_it walk_tup (fun i σ H4 => ∃ (w1 w2 w3 w4 w5 : Option V), σ = [some (.ref a), some (.ref d), some (.int ((ps.take i).foldl (putG g) (n, [])).1), some (.ref D), w1, w2, w3, w4, w5] ∧ Same H H4 ∧ H4 D = some (.dT (vKv ((ps.take i).foldl (putG g) (n, [])).2)))
      ⟨none, none, none, none, none, rfl, s1, upd_same⟩ (fun i σ H4 _ ⟨_, _, _, _, _, _, s4, _⟩ => SqT.of (s4 _ _ hb)) ?_ ?_
    · rintro i x σ H4 H4' hi ⟨w1, w2, w3, w4, w5, rfl, s4, hD4⟩ ⟨rfl, hx⟩
      obtain ⟨u, m, c, e, hum, rfl, hc, he⟩ := part_get hxs hx
      have hc4 := s4 _ _ hc
      have he4 := s4 _ _ he
      have hmem := List.mem_of_getElem? hum
      have hi2 : i < ps.length := (List.getElem?_eq_some_iff.mp hum).1
      have bm := pu.sz _ hmem
      have un := pu.nm u (List.mem_map.mpr ⟨_, hmem, rfl⟩)
      obtain ⟨wl, wnm, wsz, wsq⟩ := pu.w un
      have al : ((ps.take i).foldl (putG g) (n, [])).2.length ≤ 25 * i := by
        refine Nat.le_trans (putsG_len pu _ _ fun x hx => List.mem_of_mem_take hx) ?_
        rw [List.length_take]
        show 0 + _ ≤ _
        have : min i ps.length ≤ i := Nat.min_le_left _ _
        omega
      generalize hacc : (ps.take i).foldl (putG g) (n, []) = acc at *
      have step : (ps.take (i + 1)).foldl (putG g) (n, []) = putG g acc (u, m) := by
        rw [List.take_add_one, hum, List.foldl_append, hacc]
        rfl
      have few := pu.few
      refine ⟨c, _, rfl, SqT.of hc4, rfl, _, _, rfl, _, _, rfl, rfl, ?_⟩
      refine ⟨_, rfl, d, rfl, .inr ⟨_, .inl (s4 _ _ hd)⟩, _, rfl, _, rfl, (by show 2 ≤ sizeLine; decide), fun p1 h1 => ⟨(by show 1 ≤ sizeLine; decide), fun p2 h2 => ⟨(by show 2 ≤ sizeLine; decide), fun p3 h3 => ?_⟩⟩⟩
      have t1 := same_new (o := .tup [V.ref e, V.int 1]) h1
      have t2 := same_new (o := .tup [V.ref p1]) h2
      have t3 := same_new (o := .tup [V.int 0, V.ref p2]) h3
      have t := (t1.trans t2).trans t3
      have def1 : SumT (upd (upd (upd H4' p1 (.tup [V.ref e, V.int 1])) p2 (.tup [V.ref p1])) p3 (.tup [V.int 0, V.ref p2])) (.ref p3) 0 [(u, 1)] := ⟨p3, p2, [.ref p1], rfl, upd_same, t3 _ _ upd_same, .cons ⟨p1, e, rfl, t3 _ _ (t2 _ _ upd_same), t _ _ he4⟩ .nil⟩
      generalize upd (upd (upd H4' p1 (.tup [V.ref e, V.int 1])) p2 (.tup [V.ref p1])) p3 (.tup [V.int 0, V.ref p2]) = H5 at t def1 ⊢
      have worth : SumT H5 ((valV kvs u).getD (.ref p3)) (worthOf g u).1 (worthOf g u).2 := by
        have hw5 := worthsV_s (TupS.of (s4.trans t)) hw u
        revert hw5
        unfold worthOf
        cases valV kvs u with
        | some y =>
          rintro ⟨z, o, hg, h⟩
          rw [hg]
          exact h
        | none =>
          intro h
          rw [h]
          exact def1
      refine ⟨_, DGet.t (t _ _ (s4 _ _ hd)) (t _ _ he4), ?_⟩
      generalize hwo : worthOf g u = wo' at *
      obtain ⟨wn, wps⟩ := wo'
      obtain ⟨wa, wb, wx, ewa, hwa, hwb, hwx⟩ := worth
      rw [ewa]
      refine ⟨_, rfl, _, rfl, _, rfl, wa, _, _, _, rfl, rfl, SqT.of hwa, at_of (i := 0) rfl, m, wn, rfl, rfl, ⟨bm, wsz⟩, _, _, rfl, rfl, ?_⟩
      refine ⟨_, rfl, wa, _, _, _, rfl, rfl, SqT.of hwa, at_of (i := 1) rfl, wb, rfl, ⟨_, SqT.of hwb⟩, ?_⟩
      have hD5 := t _ _ hD4
      have lw : wx.length = wps.length := hwx.length
      refine for_it walk_tup (fun j σ H6 => ∃ (w4 w5 : Option V), σ = [some (.ref a), some (.ref d), some (.int (acc.1 + m * wn)), some (.ref D), some (.ref e), some (.int m), some (.ref wa), w4, w5] ∧ Same H H6 ∧ TupS H5 H6 ∧ H6 D = some (.dT (vKv (plusA acc.2 (scal m (wps.take j))))))
        ⟨w4, w5, rfl, s4.trans t, TupS.refl _, hD5⟩ (fun j σ H6 _ ⟨_, _, _, _, ts, _⟩ => SqT.of (ts _ _ hwb)) ?_ ?_
      · rintro j y σ H6 H6' hj ⟨w4', w5', rfl, s6, ts6, hD6⟩ ⟨rfl, hy⟩
        obtain ⟨u', m', c', e', hum', rfl, hc', he'⟩ := part_get hwx hy
        have hj2 : j < wps.length := (List.getElem?_eq_some_iff.mp hum').1
        have al2 := plusA_len (scal m (wps.take j)) acc.2
        rw [scal_len, List.length_take] at al2
        have wl' : wps.length ≤ 25 := wl
        refine ⟨c', _, rfl, SqT.of (ts6 _ _ hc'), rfl, _, _, rfl, _, _, rfl, rfl, ?_⟩
        refine ⟨_, rfl, D, rfl, .inr ⟨_, .inl hD6⟩, _, rfl, _, DGet.t hD6 (ts6 _ _ he'), _, rfl, _, rfl, m, m', rfl, rfl, ⟨bm, wsq _ (List.mem_of_getElem? hum')⟩, getI (plusA acc.2 (scal m (wps.take j))) u', m * m', getD_val _ u', rfl, ?_⟩
        refine ⟨_, rfl, _, rfl, D, _, rfl, DPut.t hD6 (ts6 _ _ he') (by
          rw [vKv_len]
          exact small1000 (by omega)), ?_⟩
        rw [put_vKv]
        refine ⟨_, _, rfl, fun b' o' eb => ?_, ts6.trans (TupS.put hD6 (by intro xs z; cases z)), ?_⟩
        · rw [upd_ne (ne_of_none eb hD)]
          exact s6 _ _ eb
        · rw [upd_same, List.take_add_one, hum']
          unfold plusA scal
          rw [List.map_append, List.foldl_append]
          rfl
      · rintro σ H6 ⟨w4', w5', rfl, s6, ts6, hD6⟩
        rw [lw, List.take_length] at hD6
        have ep : putG g acc (u, m) = (acc.1 + m * wn, plusA acc.2 (scal m wps)) := by
          unfold putG
          rw [hwo]
        exact ⟨some (.ref e), some (.int m), some (.ref wa), w4', w5', by rw [step, ep], s6, by
          rw [step, ep]
          exact hD6⟩
    · rintro σ H4 ⟨w1, w2, w3, w4, w5, rfl, s4, hD4⟩
      rw [lx, List.take_length] at hD4
      rw [lx, List.take_length]
      have al : (ps.foldl (putG g) (n, [])).2.length ≤ 25 * ps.length := by
        refine Nat.le_trans (putsG_len pu _ _ fun x hx => hx) ?_
        show 0 + _ ≤ _
        omega
      have few := pu.few
      refine ⟨_, rfl, _, rfl, _, D, _, rfl, hD4, ?_, by omega, fun v' H5 s5 hv => q v' H5 (s4.trans s5) hv⟩
      exact putsG_nm pu _ _ (fun x hx => hx) (fun u hu => by simp at hu)
end
end DR

namespace DR
open PySem PySem.Spec PyProof.Rows L2
/-! ### unknowns, address_in, address_of -/
/-- the address that a sum is -/
def addrOf (n : Int) (ps : Mul) : Option (Key × Int) := match ps with
  | [([.inr k, o], 1)] => if k = sPiece then some (o, n) else none
  | _ => none
def AddrV (H : Hp) (v : V) : Option (Key × Int) → Prop
  | none => v = .non
  | some (o, n) => ∃ a, v = .ref a ∧ H a = some (.tup [kV o, .int n])
def spAddrIn (K : PySem.W.Frag) : Sp := fun vs H Q _ => ∃ v n ps, vs = [v] ∧ SumT H v n ps ∧ (∀ u ∈ ps.map (·.1), NmU u) ∧ ps.length ≤ 400 ∧ ∀ v' H', Same H H' → AddrV H' v' (addrOf n ps) → Q v' H'
def spAddrOf (K : PySem.W.Frag) (CS : Addr) : Sp := fun vs H Q E => ∃ v d, vs = [v] ∧ Th K H v d ∧ okSum d ∧ (readSum d = none → NoSum CS H v E) ∧
  ∀ n ps, readSum d = some (n, ps) → (∀ u ∈ ps.map (·.1), NmU u) ∧ ps.length ≤ 400 ∧ ∀ v' H', Same H H' → AddrV H' v' (addrOf n ps) → Q v' H'
abbrev sAddrIn : Stmt := topS 26
abbrev sAddrOf : Stmt := topS 27
theorem scAddrIn : FnScope ["one", "number", "parts"] ["one"] (defScope sAddrIn) := ⟨rfl, rfl, rfl, by decide +kernel, rfl, by decide +kernel, by decide +kernel⟩
theorem scAddrOf : FnScope ["one"] ["one"] (defScope sAddrOf) := ⟨rfl, rfl, rfl, by decide +kernel, rfl, by decide +kernel, by decide +kernel⟩
section
variable {P : Program} {w : World} {K : PySem.W.Frag} {mg : Str → Option Value} {base : Heap}
theorem ok_addrIn {f : Addr} {fd : FuncData} (F : Fun K "address_in" "address_in" sAddrIn f fd) (T : Bi mg) : FnOk P w K mg base CX0 1 f fd ["one"] (spAddrIn K) := by
  refine F.ok scAddrIn (fun vs H Q E h => ?_) (fun cdv A outer s H vs Q E hr h => ?_)
  · obtain ⟨v, n, ps, rfl, _⟩ := h
    rfl
  · obtain ⟨v, n, ps, rfl, ⟨a, b, xs, rfl, ha, hb, hxs⟩, nm, few, q⟩ := h
    refine ⟨_, (pss_cons (ps_asg (pv 0) (pg_tup rfl (pgs_cons (pg_name (i := 1) scAddrIn.nd rfl (.inl rfl)) (pgs_cons (pg_name (i := 2) scAddrIn.nd rfl (.inl rfl)) pgs_nil))))
      (pss_cons (ps_if (PW.pt (pw_or (pt_cmpR op_ne (pe_callB call_len_seq (by rfl) T.len (by decide +kernel) (pa_cons (pv 2) pa_nil)) pe_int (nomark _)) (pw_or (pt_cmpR op_ne (pe_ix ix_tup (pe_ix ix_tup (pv 2) pe_int (fun _ _ => rfl)) pe_int (fun _ _ => rfl)) pe_int (nomark _)) (pw_or1 (pt_cmpR op_ne (pe_ix ix_tup (pe_ix ix_tup (pe_ix ix_tup (pv 2) pe_int (fun _ _ => rfl)) pe_int (fun _ _ => rfl)) pe_int (fun _ _ => rfl)) pe_str (nomark _)))))) (pss_one (ps_ret pe_non)) pss_nil)
      (pss_one (ps_ret (pe_tup (pa_cons (pe_ix ix_tup (pe_ix ix_tup (pe_ix ix_tup (pv 2) pe_int (fun _ _ => rfl)) pe_int (fun _ _ => rfl)) pe_int (fun _ _ => rfl)) (pa_cons (pv 1) pa_nil))))))), ?_⟩
    have lx : xs.length = ps.length := hxs.length
    refine ⟨_, rfl, a, _, rfl, SqT.of ha, rfl, _, _, rfl, _, _, rfl, rfl, ?_⟩
    refine ⟨_, rfl, b, xs, rfl, .inr (SqT.of hb), rfl, _, rfl, ?_⟩
    rw [eq_int, lx]
    refine ite2 (fun c => ?_) (fun c => ?_)
    · refine q _ _ (Same.refl _) ?_
      have z : addrOf n ps = none := by
        unfold addrOf
        split
        · simp at c
        · rfl
      rw [z]
      rfl
    · obtain ⟨⟨u, m⟩, rfl⟩ : ∃ p, ps = [p] := by
        match ps, c with
        | [p], _ => exact ⟨p, rfl⟩
        | [], c => exact absurd (show (!decide (((0 : Nat) : Int) = 1)) = true by decide) c
        | _ :: _ :: l, c => exact absurd (show (!decide (((l.length + 1 + 1 : Nat) : Int) = 1)) = true by simp; omega) c
      obtain ⟨k, o, rfl, hk, hko⟩ := nm u (by simp)
      cases hxs with
      | cons h1 h2 =>
      cases h2
      obtain ⟨cc, e, rfl, hc, he⟩ := h1
      refine ⟨_, rfl, b, _, _, _, rfl, rfl, SqT.of hb, at_of (i := 0) rfl, cc, _, _, _, rfl, rfl, SqT.of hc, at_of (i := 1) rfl, rfl, _, rfl, ?_⟩
      rw [eq_int]
      refine ite2 (fun c2 => ?_) (fun c2 => ?_)
      · have hm : m ≠ 1 := by
          intro z
          rw [z] at c2
          exact absurd (show (!decide ((1 : Int) = 1)) = true from c2) (by decide)
        refine q _ _ (Same.refl _) ?_
        have z : addrOf n [([.inr k, o], m)] = none := by
          unfold addrOf
          split
          · rename_i z
            exact absurd (Prod.mk.inj (List.cons.inj z).1).2 hm
          · rfl
        rw [z]
        rfl
      · obtain rfl : m = 1 := by
          rcases Classical.em (m = 1) with z | z
          · exact z
          · exact absurd (by rw [decide_eq_false z]; rfl) c2
        refine ⟨_, rfl, b, _, _, _, rfl, rfl, SqT.of hb, at_of (i := 0) rfl, cc, _, _, _, rfl, rfl, SqT.of hc, at_of (i := 0) rfl, e, _, _, _, rfl, rfl, SqT.of he, at_of (i := 0) rfl, rfl, _, rfl, ?_⟩
        rw [show decide (kV (.inr k) = V.str (Str.ofString "piece")) = decide (k = sPiece) from eq_str _ _]
        have ez : addrOf n [([.inr k, o], 1)] = if k = sPiece then some (o, n) else none := rfl
        rw [ez] at q
        refine ite2 (fun c3 => ?_) (fun c3 => ?_)
        · have hk2 : ¬ k = sPiece := fun z => absurd c3 (by rw [decide_eq_true z]; decide)
          rw [if_neg hk2] at q
          exact q _ _ (Same.refl _) rfl
        · have hk2 : k = sPiece := by
            rcases Classical.em (k = sPiece) with z | z
            · exact z
            · exact absurd (by rw [decide_eq_false z]; rfl) c3
          rw [if_pos hk2] at q
          refine ⟨_, rfl, b, _, _, _, rfl, rfl, SqT.of hb, at_of (i := 0) rfl, cc, _, _, _, rfl, rfl, SqT.of hc, at_of (i := 0) rfl, e, _, _, _, rfl, rfl, SqT.of he, at_of (i := 1) rfl, _, rfl, (by show 2 ≤ sizeLine; decide), fun p hp => ?_⟩
          exact q _ _ (same_new hp) ⟨p, rfl, upd_same⟩
theorem ok_addrOf {f CS : Addr} {fd : FuncData} (F : Fun K "address_of" "address_of" sAddrOf f fd) (G1 : Has P w K mg base (L2.CX P w) 5 "sum_of" ["thing"] (spSumOf K CS)) (G2 : Has P w K mg base CX0 5 "address_in" ["one"] (spAddrIn K)) :
    FnOk P w K mg base (L2.CX P w) 6 f fd ["one"] (spAddrOf K CS) := by
  refine F.okX scAddrOf (fun vs H Q E h => ?_) (fun cdv A outer s H vs Q E hr h => ?_)
  · obtain ⟨v, d, rfl, _⟩ := h
    rfl
  · obtain ⟨v, d, rfl, th, ok, qe, q⟩ := h
    refine ⟨_, (pss_one (ps_ret (pe_callH G2 hr (by rfl) pass0 (pa_cons (pe_callH G1 hr (by rfl) (passE (E := E) (takes_of rfl rfl rfl rfl)) (pa_cons (pv 0) pa_nil)) pa_nil)))), ?_⟩
    refine ⟨_, rfl, v, d, rfl, th, ok, fun n ps e1 v1 H1 s1 h1 => ?_, qe⟩
    obtain ⟨nm, few, q2⟩ := q n ps e1
    exact ⟨v1, n, ps, rfl, h1, nm, few, fun v' H' s2 h2 => q2 v' H' (s1.trans s2) h2⟩
end
end DR

namespace DR
open PySem PySem.Spec PyProof.Rows L2
/-- a tuple of unknowns -/
def UnksT (H : Hp) (v : V) (us : List (List Key)) : Prop := ∃ a ys, v = .ref a ∧ H a = some (.tup ys) ∧ PySem.W.EachIs (UnkAt H) ys us
def spUnks (K : PySem.W.Frag) (CS : Addr) : Sp := fun vs H Q E => ∃ v d, vs = [v] ∧ Th K H v d ∧ okSum d ∧ (readSum d = none → NoSum CS H v E) ∧
  ∀ n ps, readSum d = some (n, ps) → ps.length ≤ 400 ∧ ∀ v' H', Same H H' → UnksT H' v' (ps.map (·.1)) → Q v' H'
abbrev sUnks : Stmt := topS 25
theorem scUnks : FnScope ["one", "unknown", "_"] ["one"] (defScope sUnks) := ⟨rfl, rfl, rfl, by decide +kernel, rfl, by decide +kernel, by decide +kernel⟩
section
variable {P : Program} {w : World} {K : PySem.W.Frag} {mg : Str → Option Value} {base : Heap}
theorem ok_unks {f CS : Addr} {fd : FuncData} (F : Fun K "unknowns" "unknowns" sUnks f fd) (T : Bi mg) (G1 : Has P w K mg base (L2.CX P w) 5 "sum_of" ["thing"] (spSumOf K CS)) :
    FnOk P w K mg base (L2.CX P w) 6 f fd ["one"] (spUnks K CS) := by
  refine F.okX scUnks (fun vs H Q E h => ?_) (fun cdv A outer s H vs Q E hr h => ?_)
  · obtain ⟨v, d, rfl, _⟩ := h
    rfl
  · obtain ⟨v, d, rfl, th, ok, qe, q⟩ := h
    refine ⟨_, (pss_one (ps_ret (pe_callTy call_tuple_of (by rfl) T.tuple (by decide +kernel) (pa_cons (pe_lc (own := [("unknown", 1), ("_", 2)]) (g := gTup K 2 (gCons (gName 1) (gCons (gName 2) gNil))) (tt := tYes) (te := tVar 1) rfl scUnks.nd (pi_tup (pe_ix ix_tup (pe_callH G1 hr (by rfl) (passE (E := E) (takes_of rfl rfl rfl rfl)) (pa_cons (pv 0) pa_nil)) pe_int (fun _ _ => rfl))) (blkOk_by (N := ["one", "unknown", "_"]) (sc := defScope sUnks) (by decide +kernel))
      (fun _ _ _ _ _ => (pg_tup rfl (pgs_cons (pg_name (i := 1) scUnks.nd rfl (.inl rfl)) (pgs_cons (pg_name (i := 2) scUnks.nd rfl (.inl rfl)) pgs_nil)))) (fun _ _ _ _ _ => pts_nil) (fun _ _ _ _ _ => (pv 1))) pa_nil)))), ?_⟩
    refine ⟨_, rfl, v, d, rfl, th, ok, fun n ps e1 v1 H1 s1 h1 => ?_, qe⟩
    obtain ⟨few, q2⟩ := q n ps e1
    obtain ⟨a, b, xs, rfl, ha, hb, hxs⟩ := h1
    have lx : xs.length = ps.length := hxs.length
    refine ⟨a, _, _, _, rfl, rfl, SqT.of ha, at_of (i := 1) rfl, b, rfl, ⟨_, SqT.of hb⟩, fun D hD => ?_⟩
    refine lc_it (walk_tup (xs := xs)) (fun i H4 => (∀ c o, c ≠ D → H1 c = some o → H4 c = some o) ∧ ∃ ys, H4 D = some (.lst ys) ∧ ys.length = i ∧ PySem.W.EachIs (UnkAt H4) ys ((ps.take i).map (·.1)))
      ⟨fun c o hc e => by rw [upd_ne hc]; exact e, [], upd_same, rfl, .nil⟩ (fun i H4 _ ⟨kp, _⟩ => SqT.of (kp _ _ (ne_of_none hb hD) hb)) ?_ ?_
    · rintro i x H4 H4' hi ⟨kp, ys, hD4, hl, he⟩ ⟨rfl, hx⟩
      obtain ⟨u, m, c, e, hum, rfl, hc, he1⟩ := part_get hxs hx
      have hi2 : i < ps.length := (List.getElem?_eq_some_iff.mp hum).1
      have he4 := kp _ _ (ne_of_none he1 hD) he1
      refine ⟨c, _, rfl, SqT.of (kp _ _ (ne_of_none hc hD) hc), rfl, _, _, rfl, _, _, rfl, rfl, rfl, yes_go (iteT ⟨_, rfl, ys, hD4, small1000 (by omega), fun c' o hc' e' => ?_, ys ++ [.ref e], upd_same, by simp; omega, ?_⟩)⟩
      · rw [upd_ne hc']
        exact kp c' o hc' e'
      · have tk : (ps.take (i + 1)).map (·.1) = (ps.take i).map (·.1) ++ [u] := by
          rw [List.take_add_one, hum]
          simp
        rw [tk]
        exact each_snoc (unkAt_upd hD4 ⟨e, rfl, he4⟩) (each_upd hD4 he)
    · rintro H4 ⟨kp, ys, hD4, hl, he⟩
      rw [lx, List.take_length] at he
      have s4 : Same H1 H4 := fun c o e => kp c o (ne_of_none e hD) e
      refine ⟨D, ys, rfl, .inl ⟨SqL.of hD4, fun p hp => ?_⟩⟩
      exact q2 _ _ ((s1.trans s4).trans (same_new hp)) ⟨p, ys, rfl, upd_same, each_same (same_new hp) he⟩
end
end DR

namespace DR
open PySem PySem.Spec PyProof.Rows L2
/-! ### the law's draws -/
abbrev sCell : Stmt := topS 29
abbrev sPool : Stmt := topS 30
abbrev sTake : Stmt := topS 31
abbrev sOne : Stmt := topS 32
theorem scCell : FnScope ["script", "k"] ["script", "k"] (defScope sCell) := ⟨rfl, rfl, rfl, by decide +kernel, rfl, by decide +kernel, by decide +kernel⟩
theorem scPool : FnScope ["cell", "folded"] ["cell"] (defScope sPool) := ⟨rfl, rfl, rfl, by decide +kernel, rfl, by decide +kernel, by decide +kernel⟩
theorem scTake : FnScope ["pool", "many", "draw", "mixed"] ["pool", "many"] (defScope sTake) := ⟨rfl, rfl, rfl, by decide +kernel, rfl, by decide +kernel, by decide +kernel⟩
theorem scOne : FnScope ["pool", "things"] ["pool", "things"] (defScope sOne) := ⟨rfl, rfl, rfl, by decide +kernel, rfl, by decide +kernel, by decide +kernel⟩
/-- some int comes back -/
def spCell (K : PySem.W.Frag) : Sp := fun vs H Q _ => ∃ (l : Addr) (ns : List Int) (j : Nat), vs = [.ref l, .int (j : Int)] ∧ SqL K H l (ns.map V.int) ∧ ∀ n : Int, Q (.int n) H
section
variable {P : Program} {w : World} {K : PySem.W.Frag} {mg : Str → Option Value} {base : Heap}
theorem ok_cell {f : Addr} {fd : FuncData} (F : Fun K "_law_cell" "_law_cell" sCell f fd) (mL : mg "len" = none) : FnOk P w K mg base CX0 1 f fd ["script", "k"] (spCell K) := by
  refine F.ok scCell (fun vs H Q E h => ?_) (fun cdv A outer s H vs Q E hr h => ?_)
  · obtain ⟨l, ns, j, rfl, _⟩ := h
    rfl
  · obtain ⟨l, ns, j, rfl, hs, q⟩ := h
    refine ⟨_, pss_cons (ps_if (pt_cmpR op_lt (pv 1) (pe_callB call_len_seq (by rfl) mL PySem.boot_len (pa_cons (pv 0) pa_nil)) (nomark _))
        (pss_one (ps_ret (pe_ix ix_list (pv 0) (pv 1) (fun _ _ => rfl)))) pss_nil) (pss_one (ps_ret pe_int)), ?_⟩
    refine ⟨_, rfl, _, rfl, l, _, rfl, .inl hs, _, _, rfl, rfl, _, rfl, ?_⟩
    refine ite2 (fun hd => ?_) (fun hd => ?_)
    · have hj : (j : Int) < ((ns.map V.int).length : Int) := of_decide_eq_true hd
      rw [List.length_map] at hj
      have hj' : j < ns.length := by omega
      refine ⟨_, rfl, _, rfl, l, _, _, .int ns[j], rfl, rfl, hs, ?_, q _⟩
      unfold atI ixN
      rw [List.length_map, if_pos (by omega), if_pos (by omega)]
      show (ns.map V.int)[((j : Int)).toNat]? = _
      rw [Int.toNat_natCast, List.getElem?_map, List.getElem?_eq_getElem hj']
      rfl
    · exact q 0
end

/-- a pool of draws at p -/
structure Pool (H : Hp) (p : Addr) (c : Nat) : Prop where
  ex : ∃ a b z : Int, H p = some (.lst [.int a, .int b, .int z]) ∧ 0 ≤ a ∧ 0 ≤ b ∧ b < 1000000007 ∧ 0 ≤ z ∧ z ≤ (c : Int)
def spPool : Sp := fun vs H Q _ => ∃ n : Int, vs = [.int n] ∧ ∀ p o, H p = none → Pool (upd H p o) p 0 → Q (.ref p) (upd H p o)
def spTake : Sp := fun vs H Q _ => ∃ (p : Addr) (c : Nat) (m : Int), vs = [.ref p, .int m] ∧ Pool H p c ∧ c < 100000 ∧ 0 < m ∧ m < 1000000 ∧
  ∀ (r : Int) (o : HO), 0 ≤ r → r < m → Pool (upd H p o) p (c + 1) → Q (.int r) (upd H p o)
def spOne (K : PySem.W.Frag) : Sp := fun vs H Q _ => ∃ (p t : Addr) (c : Nat) (xs : List V), vs = [.ref p, .ref t] ∧ Pool H p c ∧ c < 100000 ∧ (SqL K H t xs ∨ SqT K H t xs) ∧ t ≠ p ∧ 0 < xs.length ∧ xs.length < 1000000 ∧
  ∀ (v : V) (o : HO), v ∈ xs → Pool (upd H p o) p (c + 1) → Q v (upd H p o)
theorem at3 {a b c : V} (i : Nat) (v : V) (h : [a, b, c][i]? = some v) : atI [a, b, c] (i : Int) = some v := by
  have hi : i < 3 := (List.getElem?_eq_some_iff.mp h).1
  unfold atI ixN
  rw [if_pos (by omega), if_pos (by show (i : Int) < ((3 : Nat) : Int); omega)]
  show ([a, b, c] : List V)[((i : Int)).toNat]? = _
  rw [Int.toNat_natCast]
  exact h
theorem pw_bound {b z : Int} (h0 : 0 ≤ b) (h1 : b < 1000000007) (h2 : 0 ≤ z) (h3 : z ≤ 100001) : CPow (b + 7919 * z + 104729) 5 := ⟨by decide, by decide, by omega⟩
section
variable {P : Program} {w : World} {K : PySem.W.Frag} {mg : Str → Option Value} {base : Heap}
theorem ok_pool {f : Addr} {fd : FuncData} (F : Fun K "_law_pool" "_law_pool" sPool f fd) (T : Bi mg) : FnOk P w K mg base CX0 1 f fd ["cell"] spPool := by
  refine F.ok scPool (fun vs H Q E h => ?_) (fun cdv A outer s H vs Q E hr h => ?_)
  · obtain ⟨n, rfl, _⟩ := h
    rfl
  · obtain ⟨n, rfl, q⟩ := h
    refine ⟨_, (pss_cons (ps_set (i := 1) scPool.nd rfl (.inl rfl) (pe_op op_mul pe_int (pv 0)))
      (pss_cons (ps_if (pt_cmpR op_lt (pv 0) pe_int (nomark _)) (pss_one (ps_set (i := 1) scPool.nd rfl (.inl rfl) (pe_op op_sub (pe_op op_sub pe_int (pe_op op_mul pe_int (pv 0))) pe_int))) pss_nil)
      (pss_cons (ps_if (pt_cmpR op_ge (pv 1) (pe_op op_pow pe_int pe_int) (nomark _)) (pss_one (ps_ret (pe_lst (pa_cons (pv 1) (pa_cons (pe_op op_mod (pe_callTy call_int1 (by rfl) T.int (by decide +kernel) (pa_cons (pv 1) pa_nil)) pe_int) (pa_cons pe_int pa_nil)))))) pss_nil)
      (pss_one (ps_ret (pe_lst (pa_cons pe_int (pa_cons (pe_op op_mod (pe_callTy call_int1 (by rfl) T.int (by decide +kernel) (pa_cons (pv 1) pa_nil)) pe_int) (pa_cons pe_int pa_nil))))))))), ?_⟩
    refine ⟨_, rfl, _, _, rfl, rfl, .inl ⟨by decide, by decide⟩, ?_⟩
    have fin : ∀ z : Int, (tSeq (tIfS (tTest (tOp (rI0 fun i j => .bl (decide (j ≤ i))) (tVar 1) (tOp (rI CPow fun i j => .int (i ^ j.toNat)) (tC (.int 10)) (tC (.int 18)))))
        (tRet (tLst (tCons (tVar 1) (tCons (tOp (rI (fun _ j => 0 < j) fun i j => .int (i % j)) (tCB (fun xs H Q => (∃ i, xs = [.int i] ∧ Q (.int i) H) ∨ ∃ k, xs = [.bl k] ∧ Q (.int (if k then 1 else 0)) H) (tCons (tVar 1) tNil)) (tC (.int 1000000007))) (tCons (tC (.int 0)) tNil))))) tNext)
        (tRet (tLst (tCons (tC (.int 0)) (tCons (tOp (rI (fun _ j => 0 < j) fun i j => .int (i % j)) (tCB (fun xs H Q => (∃ i, xs = [.int i] ∧ Q (.int i) H) ∨ ∃ k, xs = [.bl k] ∧ Q (.int (if k then 1 else 0)) H) (tCons (tVar 1) tNil)) (tC (.int 1000000007))) (tCons (tC (.int 0)) tNil))))))
        { nx := fun _ H' => Q .non H', rt := Q } [some (.int n), some (.int z)] H := by
      intro z
      refine ⟨_, rfl, _, _, rfl, rfl, ⟨by decide, by decide, by decide⟩, _, _, rfl, rfl, _, rfl, ?_⟩
      refine ite2 (fun c => ?_) (fun c => ?_)
      · have c' : (10 : Int) ^ (18 : Int).toNat ≤ z := of_decide_eq_true c
        refine ⟨_, rfl, _, rfl, .inl ⟨_, rfl, _, _, rfl, rfl, (by show (0 : Int) < 1000000007; decide), (by show 3 ≤ sizeLine; decide), fun p hp => ?_⟩⟩
        refine q p _ hp ⟨_, _, _, upd_same, Int.le_trans (by decide) c', Int.emod_nonneg _ (by decide), Int.emod_lt_of_pos _ (by decide), by decide, by decide⟩
      · refine ⟨_, rfl, .inl ⟨_, rfl, _, _, rfl, rfl, (by show (0 : Int) < 1000000007; decide), (by show 3 ≤ sizeLine; decide), fun p hp => ?_⟩⟩
        refine q p _ hp ⟨_, _, _, upd_same, by decide, Int.emod_nonneg _ (by decide), Int.emod_lt_of_pos _ (by decide), by decide, by decide⟩
    refine ⟨_, rfl, _, _, rfl, rfl, _, rfl, ?_⟩
    refine ite2 (fun c => ?_) (fun c => fin _)
    refine ⟨_, rfl, _, _, rfl, rfl, .inl ⟨by decide, by decide⟩, _, _, rfl, rfl, _, _, rfl, rfl, fin _⟩
theorem ok_take {f : Addr} {fd : FuncData} (F : Fun K "_law_take" "_law_take" sTake f fd) (T : Bi mg) : FnOk P w K mg base CX0 1 f fd ["pool", "many"] spTake := by
  refine F.ok scTake (fun vs H Q E h => ?_) (fun cdv A outer s H vs Q E hr h => ?_)
  · obtain ⟨p, c, m, rfl, _⟩ := h
    rfl
  · obtain ⟨p, c, m, rfl, ⟨a, b, z, hp, ha, hb, hb2, hz, hz2⟩, hc, hm, hm2, q⟩ := h
    refine ⟨_, (pss_cons (ps_if (pt_cmpR op_gt (pe_ix ix_list (pv 0) pe_int (fun _ _ => rfl)) pe_int (nomark _)) (pss_cons (ps_set (i := 2) scTake.nd rfl (.inl rfl) (pe_op op_mod (pe_callTy call_int1 (by rfl) T.int (by decide +kernel) (pa_cons (pe_ix ix_list (pv 0) pe_int (fun _ _ => rfl)) pa_nil)) (pv 1)))
      (pss_cons (ps_asg (pe_op op_fdiv (pe_ix ix_list (pv 0) pe_int (fun _ _ => rfl)) (pv 1)) (pg_sub (pv 0) pe_int set_list))
      (pss_one (ps_ret (pv 2))))) pss_nil)
      (pss_cons (ps_asg (pe_op op_add (pe_ix ix_list (pv 0) pe_int (fun _ _ => rfl)) pe_int) (pg_sub (pv 0) pe_int set_list))
      (pss_cons (ps_set (i := 3) scTake.nd rfl (.inl rfl) (pe_op op_mod (pe_callTy call_int1 (by rfl) T.int (by decide +kernel) (pa_cons (pe_op op_pow (pe_op op_add (pe_op op_add (pe_ix ix_list (pv 0) pe_int (fun _ _ => rfl)) (pe_op op_mul pe_int (pe_ix ix_list (pv 0) pe_int (fun _ _ => rfl)))) pe_int) pe_int) pa_nil)) pe_int))
      (pss_one (ps_ret (pe_op op_mod (pe_op op_mod (pe_callTy call_int1 (by rfl) T.int (by decide +kernel) (pa_cons (pe_op op_mul (pe_op op_add (pv 3) (pe_ix ix_list (pv 0) pe_int (fun _ _ => rfl))) pe_int) pa_nil)) pe_int) (pv 1))))))), ?_⟩
    have s0 : SqL K H p [.int a, .int b, .int z] := SqL.of hp
    refine ⟨_, rfl, p, _, _, _, rfl, rfl, s0, at3 0 _ rfl, _, _, rfl, rfl, _, rfl, ?_⟩
    refine ite2 (fun cc => ?_) (fun cc => ?_)
    · have h0 : 0 < a := of_decide_eq_true cc
      refine ⟨_, rfl, p, _, _, _, rfl, rfl, s0, at3 0 _ rfl, .inl ⟨_, rfl, _, rfl, _, _, rfl, rfl, hm, ?_⟩⟩
      refine ⟨_, rfl, p, _, _, _, rfl, rfl, s0, at3 0 _ rfl, _, rfl, _, _, rfl, rfl, ⟨hm, by omega⟩, ?_⟩
      refine ⟨_, rfl, p, _, _, 0, rfl, rfl, hp, rfl, _, rfl, ?_⟩
      exact q _ _ (Int.emod_nonneg _ (by omega)) (Int.emod_lt_of_pos _ hm) ⟨_, _, _, upd_same, Int.ediv_nonneg ha (by omega), hb, hb2, hz, by omega⟩
    · refine ⟨_, rfl, p, _, _, _, rfl, rfl, s0, at3 2 _ rfl, _, _, rfl, rfl, _, rfl, p, _, _, 2, rfl, rfl, hp, rfl, ?_⟩
      have s1 : SqL K (upd H p (.lst [.int a, .int b, .int (z + 1)])) p [.int a, .int b, .int (z + 1)] := SqL.of upd_same
      refine ⟨_, rfl, p, _, _, _, rfl, rfl, s1, at3 1 _ rfl, _, rfl, p, _, _, _, rfl, rfl, s1, at3 2 _ rfl, _, _, rfl, rfl, .inl ⟨by decide, by decide⟩, _, _, rfl, rfl, _, _, rfl, rfl, _, _, rfl, rfl, pw_bound hb hb2 (by omega) (by omega), .inl ⟨_, rfl, _, _, rfl, rfl, (by show (0 : Int) < 2147483647; decide), ?_⟩⟩
      refine ⟨_, rfl, _, rfl, p, _, _, _, rfl, rfl, s1, at3 2 _ rfl, _, _, rfl, rfl, _, _, rfl, rfl, .inr ⟨by decide, by decide⟩, .inl ⟨_, rfl, _, _, rfl, rfl, (by show (0 : Int) < 2147483629; decide), _, rfl, _, _, rfl, rfl, hm, ?_⟩⟩
      exact q _ _ (Int.emod_nonneg _ (by omega)) (Int.emod_lt_of_pos _ hm) ⟨_, _, _, upd_same, ha, hb, hb2, by omega, by omega⟩
theorem at_mem {xs : List V} {r : Int} (h0 : 0 ≤ r) (h1 : r < (xs.length : Int)) : ∃ v, atI xs r = some v ∧ v ∈ xs := by
  have h2 : r.toNat < xs.length := by omega
  refine ⟨xs[r.toNat], ?_, List.getElem_mem _⟩
  unfold atI ixN
  rw [if_pos h0, if_pos h1]
  exact List.getElem?_eq_getElem h2
theorem ok_one {f : Addr} {fd : FuncData} (F : Fun K "_law_one" "_law_one" sOne f fd) (T : Bi mg) (G : Has P w K mg base CX0 1 "_law_take" ["pool", "many"] spTake) : FnOk P w K mg base CX0 2 f fd ["pool", "things"] (spOne K) := by
  refine F.ok scOne (fun vs H Q E h => ?_) (fun cdv A outer s H vs Q E hr h => ?_)
  · obtain ⟨p, t, c, xs, rfl, _⟩ := h
    rfl
  · obtain ⟨p, t, c, xs, rfl, hP, hc, hx, hne, hl, hl2, q⟩ := h
    refine ⟨_, (pss_one (ps_ret (pe_ix ix_seq (pv 1) (pe_callH G hr (by rfl) pass0 (pa_cons (pv 0) (pa_cons (pe_callB call_len_seq (by rfl) T.len (by decide +kernel) (pa_cons (pv 1) pa_nil)) pa_nil))) (fun _ _ => rfl)))), ?_⟩
    refine ⟨_, rfl, _, rfl, _, rfl, t, xs, rfl, hx, p, c, _, rfl, hP, hc, by omega, by omega, fun r o h0 h1 hP' => ?_⟩
    obtain ⟨v, hv, hm⟩ := at_mem h0 h1
    rcases hx with hx | hx
    · refine .inl ⟨t, xs, _, v, rfl, rfl, ?_, hv, q v o hm hP'⟩
      rcases hx with (hx | ⟨u, hx⟩) | hx
      · exact .inl (.inl (by rw [upd_ne hne]; exact hx))
      · exact .inl (.inr ⟨u, by rw [upd_ne hne]; exact hx⟩)
      · exact .inr hx
    · refine .inr (.inl ⟨t, xs, _, v, rfl, rfl, ?_, hv, q v o hm hP'⟩)
      rcases hx with (hx | ⟨u, hx⟩) | hx
      · exact .inl (.inl (by rw [upd_ne hne]; exact hx))
      · exact .inl (.inr ⟨u, by rw [upd_ne hne]; exact hx⟩)
      · exact .inr hx
end

/-! ### what stays -/
abbrev sMixed : Stmt := topS 33
theorem scMixed : FnScope ["pool", "things", "left", "found", "k", "at"] ["pool", "things"] (defScope sMixed) := ⟨rfl, rfl, rfl, by decide +kernel, rfl, by decide +kernel, by decide +kernel⟩
/-- all but the pool's object stays -/
def Dr (p : Addr) (H H' : Hp) : Prop := ∀ b o, b ≠ p → H b = some o → H' b = some o
def spMixed (K : PySem.W.Frag) : Sp := fun vs H Q _ => ∃ (p t : Addr) (c : Nat) (xs : List V), vs = [.ref p, .ref t] ∧ Pool H p c ∧ c + xs.length < 100000 ∧ (SqL K H t xs ∨ SqT K H t xs) ∧ xs.length ≤ 1000 ∧
  ∀ l ys H', ys.Perm xs → Dr p H H' → Pool H' p (c + xs.length) → H l = none → H' l = some (.lst ys) → Q (.ref l) H'
theorem perm_out {xs fs ls : List V} {r : Nat} {v : V} (h : (fs ++ ls).Perm xs) (hv : ls[r]? = some v) : ((fs ++ [v]) ++ (ls.take r ++ ls.drop (r + 1))).Perm xs := by
  refine List.Perm.trans ?_ h
  rw [List.append_assoc]
  refine List.Perm.append_left fs ?_
  have hr : r < ls.length := (List.getElem?_eq_some_iff.mp hv).1
  have e : ls = ls.take r ++ (v :: ls.drop (r + 1)) := by
    have e1 : ls.drop r = v :: ls.drop (r + 1) := by
      rw [List.drop_eq_getElem_cons hr]
      rw [List.getElem?_eq_getElem hr] at hv
      rw [Option.some.inj hv]
    rw [← e1, List.take_append_drop]
  have e2 : ([v] ++ (ls.take r ++ ls.drop (r + 1))).Perm (ls.take r ++ (v :: ls.drop (r + 1))) := by
    refine List.Perm.symm ?_
    exact List.perm_middle
  rw [← e] at e2
  exact e2
theorem pool_new {H : Hp} {p q : Addr} {c : Nat} {o : HO} (h : Pool H p c) (n : H q = none) : Pool (upd H q o) p c := by
  obtain ⟨a, b, z, e, r⟩ := h
  exact ⟨a, b, z, by rw [upd_ne (fun k => by rw [← k, e] at n; cases n)]; exact e, r⟩
theorem pool_put {H : Hp} {p q : Addr} {c : Nat} {o : HO} (h : Pool H p c) (n : p ≠ q) : Pool (upd H q o) p c := by
  obtain ⟨a, b, z, e, r⟩ := h
  exact ⟨a, b, z, by rw [upd_ne n]; exact e, r⟩
theorem pool_ne {H : Hp} {p a : Addr} {c : Nat} (h : Pool H p c) (e : H a = none) : a ≠ p := fun z => by
  obtain ⟨x, y, w, hl, _⟩ := h
  rw [z, hl] at e
  cases e
section
variable {P : Program} {w : World} {K : PySem.W.Frag} {mg : Str → Option Value} {base : Heap}
theorem ok_mixed {f : Addr} {fd : FuncData} (F : Fun K "_law_mixed" "_law_mixed" sMixed f fd) (T : Bi mg) (G : Has P w K mg base CX0 1 "_law_take" ["pool", "many"] spTake) : FnOk P w K mg base CX0 2 f fd ["pool", "things"] (spMixed K) := by
  refine F.ok scMixed (fun vs H Q E h => ?_) (fun cdv A outer s H vs Q E hr h => ?_)
  · obtain ⟨p, t, c, xs, rfl, _⟩ := h
    rfl
  · obtain ⟨p, t, c, xs, rfl, hP, hc, hx, hl, q⟩ := h
    refine ⟨_, (pss_cons (ps_par (by rfl) scMixed.nd (i := 2) (j := 3) rfl rfl (by decide) rfl rfl (pa_cons (pe_callTy call_list_of (by rfl) T.list (by decide +kernel) (pa_cons (pv 1) pa_nil)) (pa_cons (pe_lst pa_nil) pa_nil)) (by rfl))
      (pss_cons (ps_for PassesOwn.never rfl (pi_range1 (by rfl) T.range (pa_cons (pe_callB call_len_seq (by rfl) T.len (by decide +kernel) (pa_cons (pv 1) pa_nil)) pa_nil)) (pg_name (i := 4) scMixed.nd rfl (.inl rfl)) (pss_cons (ps_set (i := 5) scMixed.nd rfl (.inl rfl) (pe_callH G hr (by rfl) pass0 (pa_cons (pv 0) (pa_cons (pe_callB call_len_seq (by rfl) T.len (by decide +kernel) (pa_cons (pv 2) pa_nil)) pa_nil))))
      (pss_cons (ps_expr (pe_bm PySem.F.plainAttrs_list PySem.F.slot_list_append PySem.F.type_list_append mt_append (pv 3) (pa_cons (pe_ix ix_list (pv 2) (pv 5) (fun _ _ => rfl)) pa_nil)))
      (pss_one (ps_set (i := 2) scMixed.nd rfl (.inl rfl) (pe_op op_cat (pe_slice sl_list (pv 2) po_none (po_some (pv 5))) (pe_slice sl_list (pv 2) (po_some (pe_op op_add (pv 5) pe_int)) po_none)))))))
      (pss_one (ps_ret (pv 3))))), ?_⟩
    refine ⟨_, rfl, t, xs, rfl, hx, fun L0 hL0 => ⟨(by show 0 ≤ sizeLine; decide), fun F0 hF0 => ?_⟩⟩
    refine ⟨_, _, rfl, ?_⟩
    have LF : F0 ≠ L0 := fun z => by rw [z, upd_same] at hF0; cases hF0
    have P2 := pool_new (o := .lst []) (pool_new (o := .lst xs) hP hL0) hF0
    have FH : H F0 = none := by
      rw [upd_ne LF] at hF0
      exact hF0
    have sm : Same H (upd (upd H L0 (.lst xs)) F0 (.lst [])) := (same_new hL0).trans (same_new hF0)
    have hx2 : SqL K (upd (upd H L0 (.lst xs)) F0 (.lst [])) t xs ∨ SqT K (upd (upd H L0 (.lst xs)) F0 (.lst [])) t xs := hx.imp (sqL_same sm) (sqT_same sm)
    have hlz : xs.length ≤ 1000 := hl
    refine ⟨_, rfl, t, xs, rfl, hx2, _, rfl, by omega, by omega, ?_⟩
    refine for_range (lo := 0) (n := ((xs.length : Int)).toNat) (fun i σ H1 => ∃ (L : Addr) (fs ls : List V) (o4 o5 : Option V), σ = [some (.ref p), some (.ref t), some (.ref L), some (.ref F0), o4, o5] ∧ Dr p H H1 ∧ Pool H1 p (c + i) ∧ H1 L = some (.lst ls) ∧ H1 F0 = some (.lst fs) ∧
        (fs ++ ls).Perm xs ∧ fs.length = i ∧ L ≠ F0 ∧ L ≠ p ∧ H L = none) ⟨L0, [], xs, none, none, rfl, fun b o _ e => sm _ _ e, P2, ?_, upd_same, .refl _, rfl, fun z => LF z.symm, pool_ne hP hL0, hL0⟩ ?_ ?_
    · rw [upd_ne (fun z => LF z.symm)]
      exact upd_same
    · rintro i σ H1 hi ⟨L, fs, ls, o4, o5, rfl, kp, hP1, hL, hF, pm, fl, nLF, nLp, HL⟩
      have lx := pm.length_eq
      rw [List.length_append] at lx
      have hi2 : i < xs.length := by omega
      have hls : 0 < ls.length := by omega
      have nFp : F0 ≠ p := pool_ne hP FH
      refine ⟨_, rfl, _, rfl, L, ls, rfl, .inl (SqL.of hL), p, c + i, _, rfl, hP1, by omega, by omega, by omega, fun r o h0 h1 hP2 => ?_⟩
      obtain ⟨r, rfl⟩ := Int.eq_ofNat_of_zero_le h0
      have hr : r < ls.length := by omega
      have hv := List.getElem?_eq_getElem hr
      have hL2 : (upd H1 p o) L = some (.lst ls) := by rw [upd_ne nLp]; exact hL
      have hF2 : (upd H1 p o) F0 = some (.lst fs) := by rw [upd_ne nFp]; exact hF
      have av : atI ls (r : Int) = some ls[r] := by
        unfold atI ixN
        rw [if_pos (by omega), if_pos (by omega)]
        show ls[((r : Int)).toNat]? = _
        rw [Int.toNat_natCast]
        exact hv
      refine ⟨_, rfl, .inl ⟨rfl, fs, SqL.of hF2⟩, _, rfl, _, rfl, L, ls, _, _, rfl, rfl, SqL.of hL2, av, F0, fs, _, rfl, rfl, hF2, small1000 (by omega), ?_⟩
      have hL3 : (upd (upd H1 p o) F0 (.lst (fs ++ [ls[r]]))) L = some (.lst ls) := by rw [upd_ne nLF]; exact hL2
      have hF3 : (upd (upd H1 p o) F0 (.lst (fs ++ [ls[r]]))) F0 = some (.lst (fs ++ [ls[r]])) := upd_same
      have hP3 := pool_put (o := .lst (fs ++ [ls[r]])) hP2 (fun z => nFp z.symm)
      have kp3 : Dr p H (upd (upd H1 p o) F0 (.lst (fs ++ [ls[r]]))) := fun b x n e => by
        rw [upd_ne (ne_of_none e FH), upd_ne n]
        exact kp b x n e
      generalize upd (upd H1 p o) F0 (.lst (fs ++ [ls[r]])) = H3 at hL3 hF3 hP3 kp3 ⊢
      refine ⟨_, rfl, _, rfl, _, rfl, L, ls, rfl, SqL.of hL3, fun a1 ha1 => ?_⟩
      have t1 := same_new (o := .lst (cutV ls none (some (r : Int)))) ha1
      refine ⟨_, rfl, _, rfl, _, _, rfl, rfl, _, rfl, L, ls, rfl, SqL.of (t1 _ _ hL3), fun a2 ha2 => ?_⟩
      have er : (r : Int) + 1 = ((r + 1 : Nat) : Int) := by omega
      rw [er, cut_to (by omega), cut_from (by omega)] at *
      have t2 := same_new (o := .lst (ls.drop (r + 1))) ha2
      have e1 := t2 _ _ (show (upd H3 a1 (.lst (ls.take r))) a1 = some (.lst (ls.take r)) from upd_same)
      refine ⟨a1, a2, _, _, rfl, rfl, e1, upd_same, ?_, fun L2 hL2 => ?_⟩
      · rw [List.length_take, List.length_drop]
        exact Nat.le_of_lt (small1000 (by omega))
      have t3 := same_new (o := .lst (ls.take r ++ ls.drop (r + 1))) hL2
      have tt := (t1.trans t2).trans t3
      have hP4 := pool_new (o := .lst (ls.take r ++ ls.drop (r + 1))) (pool_new (o := .lst (ls.drop (r + 1))) (pool_new (o := .lst (ls.take r)) hP3 ha1) ha2) hL2
      have nL2p : L2 ≠ p := pool_ne (pool_new (o := .lst (ls.drop (r + 1))) (pool_new (o := .lst (ls.take r)) hP3 ha1) ha2) hL2
      refine ⟨L2, fs ++ [ls[r]], ls.take r ++ ls.drop (r + 1), _, _, rfl, fun b x n e => tt _ _ (kp3 b x n e), hP4, upd_same, tt _ _ hF3, perm_out pm hv, by simp [fl], fun z => ?_, nL2p, ?_⟩
      · have q1 := (t1.trans t2) _ _ hF3
        rw [← z, hL2] at q1
        cases q1
      · cases e : H L2 with
        | none => rfl
        | some x =>
          have q1 := (t1.trans t2) _ _ (kp3 _ _ nL2p e)
          rw [hL2] at q1
          cases q1
    · rintro σ H1 ⟨L, fs, ls, o4, o5, rfl, kp, hP1, hL, hF, pm, fl, nLF, nLp, HL⟩
      have e : ((xs.length : Int)).toNat = xs.length := Int.toNat_natCast _
      rw [e] at hP1 fl
      have lx := pm.length_eq
      rw [List.length_append] at lx
      have z : ls = [] := List.eq_nil_of_length_eq_zero (by omega)
      rw [z, List.append_nil] at pm
      exact ⟨_, rfl, q F0 fs H1 pm kp hP1 FH hF⟩
end
end DR

namespace DR
open PySem PySem.Spec PyProof.Rows L2
/-! ### the law's keys and its order -/
/-- the pair of a key and an unknown -/
def PairK (H : Hp) (y : V) (u : List Key) : Prop := ∃ c a b k o, y = .ref c ∧ H c = some (.tup [.ref a, .ref b]) ∧ u = [.inr k, o] ∧ H a = some (.tup [.int ((rank k).getD 0), kV o]) ∧ H b = some (.tup [.str k, kV o])
def encK (u : List Key) : PyData := .tuple [keyD u, unkD u]
def leK : List Key → List Key → Bool := PySem.W.dataLe false encK
theorem keyDat_kD (o : Key) : keyDat o = kD o := by cases o <;> rfl
theorem pairK_dp {K : PySem.W.Frag} {H : Hp} {y : V} {u : List Key} (h : PairK H y u) : Dp K H y (encK u) := by
  obtain ⟨c, a, b, k, o, rfl, hc, rfl, ha, hb⟩ := h
  refine .tup (SqT.of hc) (.cons ?_ (.cons (dp_unk ⟨b, rfl, hb⟩) .nil))
  rw [keyD_is, ← keyDat_kD]
  exact .tup (SqT.of ha) (.cons (.int _) (.cons (dp_key o) .nil))
theorem pairK_s {H H' : Hp} (e : TupS H H') {y : V} {u : List Key} (h : PairK H y u) : PairK H' y u := by
  obtain ⟨c, a, b, k, o, h1, h2, h3, h4, h5⟩ := h
  exact ⟨c, a, b, k, o, h1, e _ _ h2, h3, e _ _ h4, e _ _ h5⟩
theorem R1_key {u u' : List Key} (h : NmU u) (h' : NmU u') : R1 (keyD u) (keyD u') := by
  obtain ⟨i, z, e⟩ := keyD_nm h
  obtain ⟨i', z', e'⟩ := keyD_nm h'
  exact .inr ⟨_, _, e, e', cmp_key h h' e e'⟩
theorem key_same {u u' : List Key} (h : NmU u) (h' : NmU u') (e : PyData.eqv (keyD u) (keyD u') = true) : u = u' := key_inj h h' ((toks_R1 _ _ (R1_key h h')).1 e)
theorem alike_unkD {u : List Key} (h : NmU u) : PySem.W.alike (unkD u) (unkD u) = true := by
  obtain ⟨k, o, rfl, _⟩ := h
  have := alike_kD o
  show PySem.W.alike (.tuple [.str k, keyDat o]) (.tuple [.str k, keyDat o]) = true
  rw [keyDat_kD]
  simp [PySem.W.alike, PySem.W.alikeAll, this]
theorem plain_unkD {u : List Key} (h : NmU u) : (unkD u).plain = true := by
  obtain ⟨k, o, rfl, _⟩ := h
  have := lay_kD o
  show (PyData.tuple [.str k, keyDat o]).plain = true
  rw [keyDat_kD]
  simp [PyData.plain, PyData.plainAll, this]
theorem plain_keyD {u : List Key} (h : NmU u) : (keyD u).plain = true := by
  obtain ⟨i, z, e⟩ := keyD_nm h
  rw [e]
  have := lay_kD z
  simp [PyData.plain, PyData.plainAll, this]
theorem cmp_enc {u u' : List Key} (h : NmU u) (h' : NmU u') : cmpL R1 [keyD u, unkD u] [keyD u', unkD u'] :=
  ⟨R1_key h h', fun e => by
    obtain rfl := key_same h h' e
    exact ⟨.inl (alike_unkD h), fun _ => trivial⟩⟩
theorem mix_enc {us : List (List Key)} (h : ∀ u ∈ us, NmU u) : Mix (us.map encK) (.type "tuple") := by
  refine ⟨fun d hd => ?_, fun xs ys hx hy => ?_, fun d hd => ?_⟩
  · obtain ⟨u, hu, rfl⟩ := List.mem_map.mp hd
    obtain ⟨i, z, e⟩ := keyD_nm (h u hu)
    exact ⟨_, _, rfl, by rw [e]; rfl⟩
  · obtain ⟨u, hu, e⟩ := List.mem_map.mp hx
    obtain ⟨u', hu', e'⟩ := List.mem_map.mp hy
    obtain rfl := PyData.tuple.inj e
    obtain rfl := PyData.tuple.inj e'
    exact cmp_enc (h u hu) (h u' hu')
  · obtain ⟨u, hu, rfl⟩ := List.mem_map.mp hd
    have h1 := plain_keyD (h u hu)
    have h2 := plain_unkD (h u hu)
    simp [encK, PyData.plain, PyData.plainAll, h1, h2]
theorem leK_is {a b : List Key} (ha : NmU a) (hb : NmU b) : leK a b = le2 a b := by
  show (!PySem.W.dataLt (encK b) (encK a)) = !PySem.W.dataLt (keyD b) (keyD a)
  cases e : PyData.eqv (keyD b) (keyD a) with
  | true =>
    obtain rfl := key_same hb ha e
    unfold PySem.W.dataLt
    rw [lex_irrefl, lex_irrefl]
  | false =>
    unfold encK
    rw [PySem.W.dataLt_tuple, lt_no toks_R1 (R1_key hb ha) e]
theorem sort_leK {us : List (List Key)} (h : ∀ u ∈ us, NmU u) : us.mergeSort leK = us.mergeSort le2 := PySem.W.sort_congr fun a ha b hb => leK_is (h a ha) (h b hb)
theorem depth_enc {u : List Key} (h : NmU u) : (encK u).depth ≤ 5 := by
  obtain ⟨k, o, rfl, _⟩ := h
  cases o <;> simp [encK, keyD, unkD, keyDat, PyData.depth, PyData.depthAll]
/-- sorted of such pairs -/
def rSortedK (K : PySem.W.Frag) : List V → Hp → VK → Prop := fun vs H Q => ∃ (a : Addr) (xs : List V) (us : List (List Key)), vs = [.ref a] ∧ SqL K H a xs ∧ PySem.W.EachIs (PairK H) xs us ∧ (∀ u ∈ us, NmU u) ∧
  ∀ (ys : List V) (p : Addr), PySem.W.EachIs (PairK H) ys (us.mergeSort le2) → H p = none → Q (.ref p) (upd H p (.lst ys))
theorem each_valsK {H : Hp} : ∀ {xs : List V} {its : List Value} {us : List (List Key)}, PySem.W.EachIs (PairK H) xs us → Vals xs its → PySem.W.EachIs (fun v u => ∃ y, L2.RelV y v ∧ PairK H y u) its us
  | _, _, _, .nil, .nil => .nil
  | _, _, _, .cons h t, .cons r rt => .cons ⟨_, r, h⟩ (each_valsK t rt)
theorem each_backK {H : Hp} : ∀ {its : List Value} {us : List (List Key)}, PySem.W.EachIs (fun v u => ∃ y, L2.RelV y v ∧ PairK H y u) its us → ∃ ys, Vals ys its ∧ PySem.W.EachIs (PairK H) ys us
  | _, _, .nil => ⟨[], .nil, .nil⟩
  | _, _, .cons ⟨y, r, h⟩ t => by
    obtain ⟨ys, r1, h1⟩ := each_backK t
    exact ⟨y :: ys, .cons r r1, .cons h h1⟩
theorem cr_sortedK {X : Cx} {k : Nat} (hr : Room k X.A) : CallR X (.builtin "sorted") (rSortedK X.K) := by
  intro pn s σ H vs ws Q I r h
  obtain ⟨a, xs, us, rfl, hs, he, nm, q⟩ := h
  obtain ⟨its, rv, hl, hz⟩ := I.list hs
  obtain ⟨u, rfl, ru⟩ := vals1 r
  obtain rfl : u = Value.ref a := ru
  have e := each_valsK he rv
  have er : PySem.W.EachIs (fun v u => ∃ as, Reads s.heap v (encK u) as) its us := eachs_imp (fun v u ⟨y, ry, hy⟩ => Dp.reads I (encK u) y v (pairK_dp hy) ry) e
  have lz : us.length ≤ sizeLine := by
    rw [← he.length]
    exact hz
  refine sorted_mix (bs := us) (enc := encK) (R := fun v u => ∃ y, L2.RelV y v ∧ PairK H y u) hl.isList e er (mix_enc nm) (by decide) lz (fun u hu => ?_) fun out hol ho => ?_
  · have h1 := depth_enc (nm u hu)
    have h2 := hr.units
    omega
  · rw [show us.mergeSort (PySem.W.dataLe false encK) = us.mergeSort le2 from sort_leK nm] at ho
    obtain ⟨ys, rv2, hy⟩ := each_backK ho
    obtain ⟨n, hn⟩ := sortedAll_at s.heap its out.toArray
    refine ⟨.ref (s.heap.objs.size + 1), upd H (s.heap.objs.size + 1) (.lst ys), I.laid (t' := s.toks) (fun b o e => sortedAll_old e) (Nat.le_succ _) ⟨?_, _, n, rv2, hn⟩, rfl, q ys _ hy (I.hok.fresh (Nat.le_succ _))⟩
    rw [hy.length, (List.mergeSort_perm _ _).length_eq]
    exact lz
/-! ### _law_key -/
def spLKey : Sp := fun vs H Q _ => ∃ (a : Addr) (k : Str) (o : Key), vs = [.ref a] ∧ H a = some (.tup [.str k, kV o]) ∧ (rank k).isSome = true ∧ ∀ p H', Same H H' → H' p = some (.tup [.int ((rank k).getD 0), kV o]) → Q (.ref p) H'
abbrev sLKey : Stmt := topS 34
theorem scLKey : FnScope ["unknown"] ["unknown"] (defScope sLKey) := ⟨rfl, rfl, rfl, by decide +kernel, rfl, by decide +kernel, by decide +kernel⟩
theorem rank_cases {k : Str} (h : (rank k).isSome = true) : k = sPiece ∨ k = sName ∨ k = sIn := by
  unfold rank at h
  by_cases c : k = sPiece
  · exact .inl c
  · rw [if_neg c] at h
    by_cases d : k = sName
    · exact .inr (.inl d)
    · rw [if_neg d] at h
      by_cases e : k = sIn
      · exact .inr (.inr e)
      · rw [if_neg e] at h
        cases h
theorem rank_at {k : Str} (h : (rank k).isSome = true) : ∃ (j : Nat) (z : V), (rank k).getD 0 = (j : Int) ∧ [V.str sPiece, V.str sName, V.str sIn][j]? = some z ∧ eqV z (.str k) = true ∧ ∀ (m : Nat) (z' : V), m < j → [V.str sPiece, V.str sName, V.str sIn][m]? = some z' → eqV z' (.str k) = false := by
  rcases rank_cases h with rfl | rfl | rfl
  · exact ⟨0, _, by decide +kernel, rfl, by decide +kernel, fun m z' hm => absurd hm (Nat.not_lt_zero _)⟩
  · refine ⟨1, _, by decide +kernel, rfl, by decide +kernel, fun m z' hm e => ?_⟩
    obtain rfl : m = 0 := by omega
    obtain rfl := Option.some.inj e
    decide +kernel
  · refine ⟨2, _, by decide +kernel, rfl, by decide +kernel, fun m z' hm e => ?_⟩
    rcases (by omega : m = 0 ∨ m = 1) with rfl | rfl
    · obtain rfl := Option.some.inj e
      decide +kernel
    · obtain rfl := Option.some.inj e
      decide +kernel
section
variable {P : Program} {w : World} {K : PySem.W.Frag} {mg : Str → Option Value} {base : Heap}
theorem ok_lkey {f : Addr} {fd : FuncData} (F : Fun K "_law_key" "_law_key" sLKey f fd) : FnOk P w K mg base CX0 1 f fd ["unknown"] spLKey := by
  refine F.ok scLKey (fun vs H Q E h => ?_) (fun cdv A outer s H vs Q E hr h => ?_)
  · obtain ⟨a, k, o, rfl, _⟩ := h
    rfl
  · obtain ⟨a, k, o, rfl, ha, hk, q⟩ := h
    refine ⟨_, (pss_one (ps_ret (pe_tup (pa_cons (pe_bm PySem.F.plainAttrs_list PySem.F.slot_list_index PySem.F.type_list_index mt_index (pe_lst (pa_cons pe_str (pa_cons pe_str (pa_cons pe_str pa_nil)))) (pa_cons (pe_ix ix_tup (pv 0) pe_int (fun _ _ => rfl)) pa_nil)) (pa_cons (pe_ix ix_tup (pv 0) pe_int (fun _ _ => rfl)) pa_nil))))), ?_⟩
    refine ⟨(by show 3 ≤ sizeLine; decide), fun l hl => ?_⟩
    have s1 := same_new (o := .lst [V.str sPiece, V.str sName, V.str sIn]) hl
    have hl1 : upd H l (.lst [V.str sPiece, V.str sName, V.str sIn]) l = some (.lst [V.str sPiece, V.str sName, V.str sIn]) := upd_same
    have ha1 := s1 _ _ ha
    obtain ⟨j, z, ej, hz, hzj, hno⟩ := rank_at hk
    refine ⟨.inl ⟨rfl, _, SqL.of hl1⟩, _, rfl, a, _, _, _, rfl, rfl, SqT.of ha1, at_of (i := 0) rfl, ?_⟩
    refine ⟨l, _, .str k, j, z, rfl, rfl, SqL.of hl1, rfl, rfl, hz, hzj, hno, ?_⟩
    refine ⟨_, rfl, a, _, _, _, rfl, rfl, SqT.of ha1, at_of (i := 1) rfl, (by show 2 ≤ sizeLine; decide), fun p hp => ?_⟩
    refine q _ _ (s1.trans (same_new hp)) ?_
    rw [upd_same, ej]
end
end DR

namespace DR
open PySem PySem.Spec PyProof.Rows L2
/-! ### _law_total -/
theorem accA_len (l : Mul) : (accAll l).length ≤ l.length := by
  have := plusA_len l []
  rw [List.length_nil, Nat.zero_add] at this
  exact this
theorem accA_nm {l : Mul} (h : ∀ u ∈ l.map (·.1), NmU u) : ∀ u ∈ (accAll l).map (·.1), NmU u := plusA_nm (l := []) h (fun u hu => by simp at hu)
def spTotal (K : PySem.W.Frag) : Sp := fun vs H Q _ => ∃ (n : Int) (l : Addr) (xs : List V) (ps : Mul), vs = [.int n, .ref l] ∧ (SqL K H l xs ∨ SqT K H l xs) ∧ PySem.W.EachIs (PartT H) xs ps ∧ (∀ u ∈ ps.map (·.1), NmU u) ∧ ps.length ≤ 400 ∧
  ∀ v' H', Same H H' → SumT H' v' n (form (accAll ps)) → Q v' H'
abbrev sTotal : Stmt := topS 35
theorem scTotal : FnScope ["number", "pairs", "found", "unknown", "many", "order", "key"] ["number", "pairs"] (defScope sTotal) := ⟨rfl, rfl, rfl, by decide +kernel, rfl, by decide +kernel, by decide +kernel⟩
theorem eachK_s {H H' : Hp} (e : TupS H H') {ys : List V} {us : List (List Key)} (h : PySem.W.EachIs (PairK H) ys us) : PySem.W.EachIs (PairK H') ys us := eachs_imp (fun _ _ => pairK_s e) h
section
variable {P : Program} {w : World} {K : PySem.W.Frag} {mg : Str → Option Value} {base : Heap}
theorem ok_total {f : Addr} {fd : FuncData} (F : Fun K "_law_total" "_law_total" sTotal f fd) (T : Bi mg) (G : Has P w K mg base CX0 2 "_law_key" ["unknown"] spLKey) : FnOk P w K mg base CX0 3 f fd ["number", "pairs"] (spTotal K) := by
  refine F.ok scTotal (fun vs H Q E h => ?_) (fun cdv A outer s H vs Q E hr h => ?_)
  · obtain ⟨n, l, xs, ps, rfl, _⟩ := h
    rfl
  · obtain ⟨n, l, xs, ps, rfl, hs, hxs, nm, few, q⟩ := h
    have hu := hu_of hr
    refine ⟨_, (pss_cons (ps_set (i := 2) scTotal.nd rfl (.inr rfl) (pe_dnewT))
      (pss_cons (ps_for PassesOwn.never rfl (pi_seq (pv 1)) (pg_tup rfl (pgs_cons (pg_name (i := 3) scTotal.nd rfl (.inl rfl)) (pgs_cons (pg_name (i := 4) scTotal.nd rfl (.inl rfl)) pgs_nil)))
        (pss_one (ps_dput hu (pv 2) (pv 3) (pe_op op_add (pe_dget2 hu (pv 2) (pv 3) pe_int ⟨rfl, rfl, rfl, rfl⟩) (pv 4)) rfl)))
      (pss_cons (ps_set (i := 5) scTotal.nd rfl (.inl rfl) (pe_callB (cr_sortedK hr) (by rfl) T.sorted (by decide +kernel) (pa_cons (pe_lock (pe_lc (own := [("unknown", 3)]) (g := gName 3) (tt := _) rfl scTotal.nd (pi_keys (pv 2)) (blkOk_by (N := ["number", "pairs", "found", "unknown", "many", "order", "key"]) (sc := defScope sTotal) (by decide +kernel)) (fun _ _ _ _ _ => pg_name (i := 3) scTotal.nd rfl (.inl rfl))
          (fun _ _ _ _ _ => pts_one (pt_cmpR op_ne (pe_dget hu (pv 2) (pv 3) (fun _ _ => rfl)) pe_int (nomark _))) (fun _ _ _ _ _ => (pe_tup (pa_cons (pe_callH G hr (by rfl) pass0 (pa_cons (pv 3) pa_nil)) (pa_cons (pv 3) pa_nil)))))) pa_nil)))
      (pss_one (ps_ret (pe_tup (pa_cons (pv 0) (pa_cons (pe_callTy call_tuple_of (by rfl) T.tuple (by decide +kernel) (pa_cons (pe_lc (own := [("key", 6), ("unknown", 3)]) (g := gTup K 2 (gCons (gName 6) (gCons (gName 3) gNil))) (tt := tYes) rfl scTotal.nd (pi_list (pv 5)) (blkOk_by (N := ["number", "pairs", "found", "unknown", "many", "order", "key"]) (sc := defScope sTotal) (by decide +kernel))
          (fun _ _ _ _ _ => (pg_tup rfl (pgs_cons (pg_name (i := 6) scTotal.nd rfl (.inl rfl)) (pgs_cons (pg_name (i := 3) scTotal.nd rfl (.inl rfl)) pgs_nil)))) (fun _ _ _ _ _ => pts_nil) (fun _ _ _ _ _ => (pe_tup (pa_cons (pv 3) (pa_cons (pe_dget hu (pv 2) (pv 3) (fun _ _ => rfl)) pa_nil))))) pa_nil)) pa_nil)))))))), ?_⟩
    refine fun d hD0 => ?_
    have s0 : Same H (upd H d (.dT [])) := same_new hD0
    have lx : xs.length = ps.length := hxs.length
    refine ⟨_, rfl, l, xs, rfl, row_sq s0 hs, fun J Gd W hG => ?_⟩
    refine for_it W (fun i σ H4 => ∃ (w1 w2 : Option V), σ = [some (.int n), some (.ref l), some (.ref d), w1, w2, none, none] ∧ Same H H4 ∧ H4 d = some (.dT (vKv (accAll (ps.take i)))))
      ⟨none, none, rfl, s0, upd_same⟩ (fun i σ H4 _ ⟨_, _, _, s4, _⟩ => hG H4 (fun z => sqL_same s4 (sqL_drop z)) (fun z => sqT_same s4 (sqT_drop z))) ?_ ?_
    · rintro i x σ H4 H4' hi ⟨w1, w2, rfl, s4, hD4⟩ ⟨rfl, hx⟩
      obtain ⟨u, m, c, e, hum, rfl, hc, he⟩ := part_get hxs hx
      have hi2 : i < ps.length := (List.getElem?_eq_some_iff.mp hum).1
      have al := accA_len (ps.take i)
      rw [List.length_take] at al
      refine ⟨c, _, rfl, SqT.of (s4 _ _ hc), rfl, _, _, rfl, _, _, rfl, rfl, ?_⟩
      refine ⟨_, rfl, d, rfl, .inr ⟨_, .inl hD4⟩, _, rfl, _, DGet.t hD4 (s4 _ _ he), _, rfl, getI (accAll (ps.take i)) u, m, getD_val _ u, rfl, ?_⟩
      refine ⟨_, rfl, _, rfl, d, _, rfl, DPut.t hD4 (s4 _ _ he) (by
        rw [vKv_len]
        exact small1000 (by omega)), ?_⟩
      rw [put_vKv]
      refine ⟨_, _, rfl, fun b o eb => ?_, ?_⟩
      · rw [upd_ne (ne_of_none eb hD0)]
        exact s4 _ _ eb
      · rw [upd_same, List.take_add_one, hum]
        unfold accAll
        rw [List.foldl_append]
        rfl
    · rintro σ H0 ⟨w1, w2, rfl, sH, hd⟩
      rw [lx, List.take_length] at hd
      have al := accA_len ps
      have hn := accA_nm nm
      generalize accAll ps = kvs at hd al hn q
      refine ⟨d, _, hd, trivial, fun od => ⟨_, rfl, d, od, rfl, .inr ⟨_, upd_same, fun D hD => ?_⟩⟩⟩
      have lenK : (vKv kvs).length = kvs.length := List.length_map _
      have hDd : D ≠ d := by
        intro z
        rw [z, upd_same] at hD
        cases hD
      have hDn : H0 D = none := by
        rw [upd_ne hDd] at hD
        exact hD
      refine lc_it walk_keysT (fun i H1 => (∀ b o, b ≠ D → upd H0 d (.frz od (.dT (vKv kvs))) b = some o → H1 b = some o) ∧ ∃ ys, H1 D = some (.lst ys) ∧ ys.length ≤ i ∧ PySem.W.EachIs (PairK H1) ys (((kvs.take i).map (·.1)).filter fun u => !decide (getI kvs u = 0)))
        ⟨fun b o hb e => by rw [upd_ne hb]; exact e, [], upd_same, Nat.le_refl _, .nil⟩ (fun i H1 _ ⟨kp, _⟩ => kp _ _ hDd.symm upd_same) ?_ ?_
      · rintro i x H1 H1' hi ⟨kp, ys, hD1, hlen, he⟩ ⟨rfl, k, v, qa, hk, rfl, hq⟩
        have hi' : i < kvs.length := by rw [lenK] at hi; exact hi
        obtain ⟨⟨k0, m⟩, hm⟩ : ∃ p, kvs[i]? = some p := ⟨kvs[i], List.getElem?_eq_getElem hi'⟩
        have hk2 : (k, v) = (k0, V.int m) := by
          unfold vKv at hk
          rw [List.getElem?_map, hm] at hk
          exact (Option.some.inj hk).symm
        cases hk2
        have hmem : k ∈ kvs.map (·.1) := List.mem_map.mpr ⟨_, List.mem_of_getElem? hm, rfl⟩
        have hd1 : H1' d = some (.frz od (.dT (vKv kvs))) := kp _ _ hDd.symm upd_same
        refine ⟨rfl, _, rfl, _, rfl, d, .int (getI kvs k), rfl, .inr ⟨vKv kvs, k, qa, .inr ⟨od, hd1⟩, rfl, hq, (valV_mem hmem).symm⟩, rfl, _, rfl, ?_⟩
        rw [eq_int]
        have tk : (kvs.take (i + 1)).map (·.1) = (kvs.take i).map (·.1) ++ [k] := by
          rw [List.take_add_one, hm]
          simp
        cases c : !decide (getI kvs k = 0) with
        | true =>
          obtain ⟨kk, o, rfl, hk1, _⟩ := hn k hmem
          refine iteT ⟨_, rfl, qa, kk, o, rfl, hq, hk1, fun p H2 s2 hp => ?_⟩
          refine ⟨_, rfl, (by show 2 ≤ sizeLine; decide), fun t ht => ?_⟩
          have st := same_new (o := .tup [V.ref p, V.ref qa]) ht
          have hD3 : upd H2 t (.tup [V.ref p, V.ref qa]) D = some (.lst ys) := st _ _ (s2 _ _ hD1)
          have tD : t ≠ D := fun z => by
            rw [z, s2 _ _ hD1] at ht
            cases ht
          have ts : TupS H1' (upd (upd H2 t (.tup [V.ref p, V.ref qa])) D (.lst (ys ++ [.ref t]))) := (TupS.of (s2.trans st)).trans (TupS.put hD3 (by intro xs z; cases z))
          have ts2 : TupS (upd H2 t (.tup [V.ref p, V.ref qa])) (upd (upd H2 t (.tup [V.ref p, V.ref qa])) D (.lst (ys ++ [.ref t]))) := TupS.put hD3 (by intro xs z; cases z)
          refine ⟨ys, hD3, small1000 (by omega), fun b o' hb e => ?_, ys ++ [.ref t], upd_same, by simp; omega, ?_⟩
          · rw [upd_ne hb]
            exact st _ _ (s2 _ _ (kp b o' hb e))
          · rw [tk, List.filter_append]
            have z : [([.inr kk, o] : List Key)].filter (fun u => !decide (getI kvs u = 0)) = [[.inr kk, o]] := by simp [List.filter, c]
            rw [z]
            exact eachs_snoc ⟨t, p, qa, kk, o, rfl, ts2 _ _ upd_same, rfl, ts2 _ _ (st _ _ hp), ts _ _ hq⟩ (eachK_s ts he)
        | false =>
          refine iteF ⟨kp, ys, hD1, by omega, ?_⟩
          rw [tk, List.filter_append]
          have z : [k].filter (fun u => !decide (getI kvs u = 0)) = [] := by simp [List.filter, c]
          rw [z, List.append_nil]
          exact he
      · rintro H1 ⟨kp, ys, hD1, hlen, he⟩
        have tl : (kvs.take (vKv kvs).length) = kvs := by rw [lenK]; exact List.take_length
        rw [tl] at he
        have hd1 : H1 d = some (.frz od (.dT (vKv kvs))) := kp _ _ hDd.symm upd_same
        have sm : Same H0 (upd H1 d (.dT (vKv kvs))) := fun b o e => by
          by_cases hb : b = d
          · rw [hb] at e ⊢
            rw [upd_same]
            exact hd.symm.trans e
          · rw [upd_ne hb]
            refine kp b o (ne_of_none e hDn) ?_
            rw [upd_ne hb]
            exact e
        have eD : (upd H1 d (.dT (vKv kvs))) D = some (.lst ys) := by
          rw [upd_ne hDd]
          exact hD1
        have he2 : PySem.W.EachIs (PairK (upd H1 d (.dT (vKv kvs)))) ys (keysN kvs) := eachK_s (TupS.put hd1 (by intro xs z; cases z)) he
        have hnK : ∀ u ∈ keysN kvs, NmU u := fun u hu => hn u (List.mem_filter.mp hu).1
        refine ⟨hd1, D, ys, keysN kvs, rfl, SqL.of eD, he2, hnK, fun zs p hz hp => ?_⟩
        generalize hH2 : upd H1 d (.dT (vKv kvs)) = H2 at sm eD he2 hp hz ⊢
        have h2d : H2 d = some (.dT (vKv kvs)) := by rw [← hH2, upd_same]
        have sm3 : Same H2 (upd H2 p (.lst zs)) := same_new hp
        have hz3 : PySem.W.EachIs (PairK (upd H2 p (.lst zs))) zs ((keysN kvs).mergeSort le2) := eachK_s (TupS.of sm3) hz
        have lz : zs.length = ((keysN kvs).mergeSort le2).length := hz.length
        have lz2 : zs.length ≤ 1000 := by
          rw [lz, (List.mergeSort_perm _ _).length_eq]
          unfold keysN
          refine Nat.le_trans (List.length_filter_le _ _) ?_
          rw [List.length_map]
          omega
        generalize hH3 : upd H2 p (.lst zs) = H3 at sm3 hz3 ⊢
        have h3d : H3 d = some (.dT (vKv kvs)) := sm3 _ _ h2d
        have h3p : H3 p = some (.lst zs) := by rw [← hH3, upd_same]
        refine ⟨_, rfl, _, rfl, p, rfl, ⟨_, SqL.of h3p⟩, fun D2 hD2 => ?_⟩
        have pD2 : p ≠ D2 := ne_of_none h3p hD2
        refine lc_it (walk_list (xs := zs)) (fun i H4 => (∀ b o, b ≠ D2 → H3 b = some o → H4 b = some o) ∧ ∃ ps, H4 D2 = some (.lst ps) ∧ ps.length = i ∧ PySem.W.EachIs (PartT H4) ps ((((keysN kvs).mergeSort le2).take i).map fun u => (u, getI kvs u)))
          ⟨fun b o hb e => by rw [upd_ne hb]; exact e, [], upd_same, rfl, .nil⟩ (fun i H4 _ ⟨kp, _⟩ => SqL.of (kp _ _ pD2 h3p)) ?_ ?_
        · rintro i x H4 H4' hi ⟨kp4, ps, h4D, hps, hdp⟩ ⟨rfl, hx⟩
          obtain ⟨u, hu1, c, ka, a, kk, o, rfl, hc, rfl, hka, ha⟩ := eachs_get hz3 hx
          have ha4 := kp4 _ _ (ne_of_none ha hD2) ha
          have h4d := kp4 _ _ (ne_of_none h3d hD2) h3d
          have hmem : [.inr kk, o] ∈ kvs.map (·.1) := (List.mem_filter.mp (mem_sort (List.mem_of_getElem? hu1))).1
          refine ⟨c, _, rfl, SqT.of (kp4 _ _ (ne_of_none hc hD2) hc), rfl, _, _, rfl, _, _, rfl, rfl, rfl, yes_go (iteT ⟨_, rfl, _, rfl, _, rfl, d, .int (getI kvs [.inr kk, o]), rfl, .inr ⟨vKv kvs, [.inr kk, o], a, .inl h4d, rfl, ha4, (valV_mem hmem).symm⟩, (by show 2 ≤ sizeLine; decide), fun t ht => ⟨ps, ?_, small1000 (by omega), ?_, ps ++ [.ref t], upd_same, by simp; omega, ?_⟩⟩)⟩
          · rw [upd_ne (ne_of_none h4D ht)]
            exact h4D
          · intro b o' hb e
            rw [upd_ne hb, upd_ne (ne_of_none (kp4 b o' hb e) ht)]
            exact kp4 b o' hb e
          · have tD : t ≠ D2 := fun z => by rw [z, h4D] at ht; cases ht
            have ts : TupS H4' (upd (upd H4' t (.tup [.ref a, .int (getI kvs [.inr kk, o])])) D2 (.lst (ps ++ [.ref t]))) := (TupS.of (same_new ht)).trans (TupS.put (o := .lst ps) (by
              rw [upd_ne (ne_of_none h4D ht)]
              exact h4D) (by intro xs z; cases z))
            rw [List.take_add_one, hu1]
            simp only [Option.toList_some, List.map_append, List.map_cons, List.map_nil]
            refine eachs_snoc ⟨t, a, rfl, ?_, ts _ _ ha4⟩ (eachs_imp (fun _ _ => partT_s ts) hdp)
            rw [upd_ne tD, upd_same]
        · rintro H4 ⟨kp4, ps, h4D, hps, hdp⟩
          have tl2 : ((keysN kvs).mergeSort le2).take zs.length = (keysN kvs).mergeSort le2 := by rw [lz]; exact List.take_length
          rw [tl2] at hdp
          refine ⟨D2, ps, rfl, .inl ⟨SqL.of h4D, fun l' hl4 => ⟨(by show 2 ≤ sizeLine; decide), fun r hr5 => ?_⟩⟩⟩
          have s4 : Same H3 H4 := fun b o e => kp4 b o (ne_of_none e hD2) e
          have s5 := same_new (o := .tup ps) hl4
          have s6 := same_new (o := .tup [.int n, .ref l']) hr5
          refine q _ _ (((((sH.trans sm).trans sm3).trans s4).trans s5).trans s6) ?_
          have el : (upd (upd H4 l' (.tup ps)) r (.tup [.int n, .ref l'])) l' = some (.tup ps) := s6 _ _ upd_same
          exact ⟨r, l', ps, rfl, upd_same, el, eachs_imp (fun _ _ => partT_s (TupS.of (s5.trans s6))) hdp⟩
end
end DR

namespace DR
open PySem PySem.Spec PyProof.Rows L2
/-! ### _law_added, _law_address -/
structure FitA (ps : Mul) (k m : Int) (qs : Mul) : Prop where
  n1 : ∀ q ∈ ps.map (·.1), NmU q
  n2 : ∀ q ∈ qs.map (·.1), NmU q
  l1 : ps.length ≤ 200
  l2 : qs.length ≤ 200
  zk : Sz k
  zm : Sz m
  zq : ∀ q ∈ qs, Sz q.2
def spAdded (K : PySem.W.Frag) : Sp := fun vs H Q _ => ∃ (v u : V) (n m k : Int) (ps qs : Mul), vs = [v, u, .int k] ∧ SumT H v n ps ∧ SumT H u m qs ∧ FitA ps k m qs ∧
  ∀ v' H', Same H H' → SumT H' v' (n + k * m) (form (accAll (ps ++ scal k qs))) → Q v' H'
abbrev sAdded : Stmt := topS 36
theorem scAdded : FnScope ["one", "other", "many", "unknown", "more"] ["one", "other", "many"] (defScope sAdded) := ⟨rfl, rfl, rfl, by decide +kernel, rfl, by decide +kernel, by decide +kernel⟩
abbrev sLAddr : Stmt := topS 37
theorem scLAddr : FnScope ["one"] ["one"] (defScope sLAddr) := ⟨rfl, rfl, rfl, by decide +kernel, rfl, by decide +kernel, by decide +kernel⟩
section
variable {P : Program} {w : World} {K : PySem.W.Frag} {mg : Str → Option Value} {base : Heap}
theorem ok_added {f : Addr} {fd : FuncData} (F : Fun K "_law_added" "_law_added" sAdded f fd) (T : Bi mg) (G : Has P w K mg base CX0 3 "_law_total" ["number", "pairs"] (spTotal K)) : FnOk P w K mg base CX0 4 f fd ["one", "other", "many"] (spAdded K) := by
  refine F.ok scAdded (fun vs H Q E h => ?_) (fun cdv A outer s H vs Q E hr h => ?_)
  · obtain ⟨v, u, n, m, k, ps, qs, rfl, _⟩ := h
    rfl
  · obtain ⟨v, u, n, m, k, ps, qs, rfl, ⟨a, b, xs, rfl, ha, hb, hxs⟩, ⟨a2, b2, ys, rfl, ha2, hb2, hys⟩, fit, q⟩ := h
    refine ⟨_, (pss_one (ps_ret (pe_callH G hr (by rfl) pass0 (pa_cons (pe_op op_add (pe_ix ix_tup (pv 0) pe_int (fun _ _ => rfl)) (pe_op op_mulS (pv 2) (pe_ix ix_tup (pv 1) pe_int (fun _ _ => rfl)))) (pa_cons (pe_op op_cat (pe_callTy call_list_of (by rfl) T.list (by decide +kernel) (pa_cons (pe_ix ix_tup (pv 0) pe_int (fun _ _ => rfl)) pa_nil))
      (pe_lc (own := [("unknown", 3), ("more", 4)]) (g := gTup K 2 (gCons (gName 3) (gCons (gName 4) gNil))) (tt := tYes) rfl scAdded.nd (pi_tup (pe_ix ix_tup (pv 1) pe_int (fun _ _ => rfl))) (blkOk_by (N := ["one", "other", "many", "unknown", "more"]) (sc := defScope sAdded) (by decide +kernel)) (fun _ _ _ _ _ => (pg_tup rfl (pgs_cons (pg_name (i := 3) scAdded.nd rfl (.inl rfl)) (pgs_cons (pg_name (i := 4) scAdded.nd rfl (.inl rfl)) pgs_nil)))) (fun _ _ _ _ _ => pts_nil) (fun _ _ _ _ _ => (pe_tup (pa_cons (pv 3) (pa_cons (pe_op op_mulS (pv 2) (pv 4)) pa_nil)))))) pa_nil))))), ?_⟩
    have lx : xs.length = ps.length := hxs.length
    have ly : ys.length = qs.length := hys.length
    have l1 := fit.l1
    have l2 := fit.l2
    refine ⟨_, rfl, a, _, _, _, rfl, rfl, SqT.of ha, at_of (i := 0) rfl, _, rfl, _, rfl, a2, _, _, _, rfl, rfl, SqT.of ha2, at_of (i := 0) rfl, k, m, rfl, rfl, ⟨fit.zk, fit.zm⟩, n, k * m, rfl, rfl, ?_⟩
    refine ⟨_, rfl, a, _, _, _, rfl, rfl, SqT.of ha, at_of (i := 1) rfl, b, xs, rfl, .inr (SqT.of hb), fun l hl => ?_⟩
    have s1 := same_new (o := .lst xs) hl
    have hl1 : upd H l (.lst xs) l = some (.lst xs) := upd_same
    generalize upd H l (.lst xs) = H1 at s1 hl1 ⊢
    refine ⟨_, rfl, a2, _, _, _, rfl, rfl, SqT.of (s1 _ _ ha2), at_of (i := 1) rfl, b2, rfl, ⟨_, SqT.of (s1 _ _ hb2)⟩, fun D hD => ?_⟩
    refine lc_it (walk_tup (xs := ys)) (fun i H4 => (∀ c o, c ≠ D → H1 c = some o → H4 c = some o) ∧ ∃ zs, H4 D = some (.lst zs) ∧ zs.length = i ∧ PySem.W.EachIs (PartT H4) zs (scal k (qs.take i)))
      ⟨fun c o hc e => by rw [upd_ne hc]; exact e, [], upd_same, rfl, .nil⟩ (fun i H4 _ ⟨kp, _⟩ => SqT.of (kp _ _ (ne_of_none (s1 _ _ hb2) hD) (s1 _ _ hb2))) ?_ ?_
    · rintro i x H4 H4' hi ⟨kp, zs, hD4, hlz, hz⟩ ⟨rfl, hx⟩
      obtain ⟨u, mm, c, e, hum, rfl, hc, he⟩ := part_get hys hx
      have hi2 : i < qs.length := (List.getElem?_eq_some_iff.mp hum).1
      have hc4 := kp _ _ (ne_of_none (s1 _ _ hc) hD) (s1 _ _ hc)
      have he4 := kp _ _ (ne_of_none (s1 _ _ he) hD) (s1 _ _ he)
      refine ⟨c, _, rfl, SqT.of hc4, rfl, _, _, rfl, _, _, rfl, rfl, rfl, yes_go (iteT ⟨_, rfl, _, rfl, _, rfl, k, mm, rfl, rfl, ⟨fit.zk, fit.zq _ (List.mem_of_getElem? hum)⟩, (by show 2 ≤ sizeLine; decide), fun t ht => ⟨zs, ?_, small1000 (by omega), ?_, zs ++ [.ref t], upd_same, by simp; omega, ?_⟩⟩)⟩
      · rw [upd_ne (ne_of_none hD4 ht)]
        exact hD4
      · intro b' o' hb' e'
        rw [upd_ne hb', upd_ne (ne_of_none (kp b' o' hb' e') ht)]
        exact kp b' o' hb' e'
      · have tD : t ≠ D := fun z => by rw [z, hD4] at ht; cases ht
        have ts : TupS H4' (upd (upd H4' t (.tup [.ref e, .int (k * mm)])) D (.lst (zs ++ [.ref t]))) := (TupS.of (same_new ht)).trans (TupS.put (o := .lst zs) (by
          rw [upd_ne (ne_of_none hD4 ht)]
          exact hD4) (by intro xs z; cases z))
        have tk : scal k (qs.take (i + 1)) = scal k (qs.take i) ++ [(u, k * mm)] := by
          rw [List.take_add_one, hum]
          unfold scal
          simp
        rw [tk]
        refine eachs_snoc ⟨t, e, rfl, ?_, ts _ _ he4⟩ (eachs_imp (fun _ _ => partT_s ts) hz)
        rw [upd_ne tD, upd_same]
    · rintro H4 ⟨kp, zs, hD4, hlz, hz⟩
      rw [ly, List.take_length] at hz
      have s4 : Same H1 H4 := fun c o e => kp c o (ne_of_none e hD) e
      refine ⟨l, D, xs, zs, rfl, rfl, s4 _ _ hl1, hD4, ?_, fun p hp => ?_⟩
      · rw [lx, hlz, ly]
        exact sz1000 (by omega)
      · have s5 := same_new (o := .lst (xs ++ zs)) hp
        have st := (s1.trans s4).trans s5
        have app : ∀ {as : List V} {ls : Mul} {bs : List V} {ms : Mul}, PySem.W.EachIs (PartT (upd H4 p (.lst (xs ++ zs)))) as ls → PySem.W.EachIs (PartT (upd H4 p (.lst (xs ++ zs)))) bs ms → PySem.W.EachIs (PartT (upd H4 p (.lst (xs ++ zs)))) (as ++ bs) (ls ++ ms) := fun h1 h2 => by
          induction h1 with
          | nil => exact h2
          | cons h t ih => exact .cons h ih
        refine ⟨n + k * m, p, xs ++ zs, ps ++ scal k qs, rfl, .inl (SqL.of upd_same), app (eachs_imp (fun _ _ => partT_s (TupS.of st)) hxs) (eachs_imp (fun _ _ => partT_s (TupS.of s5)) hz), fun u hu => ?_, ?_, fun v' H' s6 h6 => q v' H' (st.trans s6) h6⟩
        · rw [List.map_append, scal_keys] at hu
          rcases List.mem_append.mp hu with z | z
          · exact fit.n1 u z
          · exact fit.n2 u z
        · rw [List.length_append, scal_len]
          omega
theorem ok_lAddr {f : Addr} {fd : FuncData} (F : Fun K "_law_address" "_law_address" sLAddr f fd) (T : Bi mg) : FnOk P w K mg base CX0 1 f fd ["one"] (spAddrIn K) := by
  refine F.ok scLAddr (fun vs H Q E h => ?_) (fun cdv A outer s H vs Q E hr h => ?_)
  · obtain ⟨v, n, ps, rfl, _⟩ := h
    rfl
  · obtain ⟨v, n, ps, rfl, ⟨a, b, xs, rfl, ha, hb, hxs⟩, nm, few, q⟩ := h
    refine ⟨_, (pss_cons (ps_if (PW.pt (pw_or (pt_cmpR op_ne (pe_callB call_len_seq (by rfl) T.len (by decide +kernel) (pa_cons (pe_ix ix_tup (pv 0) pe_int (fun _ _ => rfl)) pa_nil)) pe_int (nomark _)) (pw_or (pt_cmpR op_ne (pe_ix ix_tup (pe_ix ix_tup (pe_ix ix_tup (pv 0) pe_int (fun _ _ => rfl)) pe_int (fun _ _ => rfl)) pe_int (fun _ _ => rfl)) pe_int (nomark _)) (pw_or1 (pt_cmpR op_ne (pe_ix ix_tup (pe_ix ix_tup (pe_ix ix_tup (pe_ix ix_tup (pv 0) pe_int (fun _ _ => rfl)) pe_int (fun _ _ => rfl)) pe_int (fun _ _ => rfl)) pe_int (fun _ _ => rfl)) pe_str (nomark _)))))) (pss_one (ps_ret pe_non)) pss_nil)
      (pss_one (ps_ret (pe_tup (pa_cons (pe_ix ix_tup (pe_ix ix_tup (pe_ix ix_tup (pe_ix ix_tup (pv 0) pe_int (fun _ _ => rfl)) pe_int (fun _ _ => rfl)) pe_int (fun _ _ => rfl)) pe_int (fun _ _ => rfl)) (pa_cons (pe_ix ix_tup (pv 0) pe_int (fun _ _ => rfl)) pa_nil)))))), ?_⟩
    have lx : xs.length = ps.length := hxs.length
    refine ⟨_, rfl, a, _, _, _, rfl, rfl, SqT.of ha, at_of (i := 1) rfl, b, xs, rfl, .inr (SqT.of hb), rfl, _, rfl, ?_⟩
    rw [eq_int, lx]
    refine ite2 (fun c => ?_) (fun c => ?_)
    · refine q _ _ (Same.refl _) ?_
      have z : addrOf n ps = none := by
        unfold addrOf
        split
        · simp at c
        · rfl
      rw [z]
      rfl
    · obtain ⟨⟨u, m⟩, rfl⟩ : ∃ p, ps = [p] := by
        match ps, c with
        | [p], _ => exact ⟨p, rfl⟩
        | [], c => exact absurd (show (!decide (((0 : Nat) : Int) = 1)) = true by decide) c
        | _ :: _ :: l, c => exact absurd (show (!decide (((l.length + 1 + 1 : Nat) : Int) = 1)) = true by simp; omega) c
      obtain ⟨k, o, rfl, hk, hko⟩ := nm u (by simp)
      cases hxs with
      | cons h1 h2 =>
      cases h2
      obtain ⟨cc, e, rfl, hc, he⟩ := h1
      refine ⟨_, rfl, a, _, _, _, rfl, rfl, SqT.of ha, at_of (i := 1) rfl, b, _, _, _, rfl, rfl, SqT.of hb, at_of (i := 0) rfl, cc, _, _, _, rfl, rfl, SqT.of hc, at_of (i := 1) rfl, rfl, _, rfl, ?_⟩
      rw [eq_int]
      refine ite2 (fun c2 => ?_) (fun c2 => ?_)
      · have hm : m ≠ 1 := by
          intro z
          rw [z] at c2
          exact absurd (show (!decide ((1 : Int) = 1)) = true from c2) (by decide)
        refine q _ _ (Same.refl _) ?_
        have z : addrOf n [([.inr k, o], m)] = none := by
          unfold addrOf
          split
          · rename_i z
            exact absurd (Prod.mk.inj (List.cons.inj z).1).2 hm
          · rfl
        rw [z]
        rfl
      · obtain rfl : m = 1 := by
          rcases Classical.em (m = 1) with z | z
          · exact z
          · exact absurd (by rw [decide_eq_false z]; rfl) c2
        refine ⟨_, rfl, a, _, _, _, rfl, rfl, SqT.of ha, at_of (i := 1) rfl, b, _, _, _, rfl, rfl, SqT.of hb, at_of (i := 0) rfl, cc, _, _, _, rfl, rfl, SqT.of hc, at_of (i := 0) rfl, e, _, _, _, rfl, rfl, SqT.of he, at_of (i := 0) rfl, rfl, _, rfl, ?_⟩
        rw [show decide (kV (.inr k) = V.str (Str.ofString "piece")) = decide (k = sPiece) from eq_str _ _]
        have ez : addrOf n [([.inr k, o], 1)] = if k = sPiece then some (o, n) else none := rfl
        rw [ez] at q
        refine ite2 (fun c3 => ?_) (fun c3 => ?_)
        · have hk2 : ¬ k = sPiece := fun z => absurd c3 (by rw [decide_eq_true z]; decide)
          rw [if_neg hk2] at q
          exact q _ _ (Same.refl _) rfl
        · have hk2 : k = sPiece := by
            rcases Classical.em (k = sPiece) with z | z
            · exact z
            · exact absurd (by rw [decide_eq_false z]; rfl) c3
          rw [if_pos hk2] at q
          refine ⟨_, rfl, a, _, _, _, rfl, rfl, SqT.of ha, at_of (i := 1) rfl, b, _, _, _, rfl, rfl, SqT.of hb, at_of (i := 0) rfl, cc, _, _, _, rfl, rfl, SqT.of hc, at_of (i := 0) rfl, e, _, _, _, rfl, rfl, SqT.of he, at_of (i := 1) rfl, _, rfl, a, _, _, _, rfl, rfl, SqT.of ha, at_of (i := 0) rfl, (by show 2 ≤ sizeLine; decide), fun p hp => ?_⟩
          exact q _ _ (same_new hp) ⟨p, rfl, upd_same⟩
end
end DR

namespace DR
open PySem PySem.Spec PyProof.Rows L2
/-! ### _law_pairs -/
/-- the unknowns that the law draws from -/
def menuU : List (List Key) := [[.inr sPiece, .inr "b"], [.inr sPiece, .inr "a"], [.inr sPiece, .inr "main"], [.inr sName, .inr "a"], [.inr sName, .inr "zz"], [.inr sIn, .inl 2], [.inr sIn, .inl 10], [.inr sIn, .inl 1]]
/-- an unknown that reads as itself -/
structure Uk (u : List Key) : Prop where
  nm : NmU u
  rd : readUnk (unkD u) = some u
  sh : shortP (unkD u)
  mn : u ∈ menuU
/-- unknowns that stand -/
def MenuV (H : Hp) (vs : List V) : Prop := ∀ v ∈ vs, ∃ u, Uk u ∧ UnkAt H v u
theorem menu_snoc {H : Hp} {vs : List V} (M : MenuV H vs) {p : Addr} {u : List Key} (hp : H p = none) (hu : Uk u) : MenuV (upd H p (.tup (u.map kV))) (vs ++ [.ref p]) := fun v hv => by
  rcases List.mem_append.mp hv with h | h
  · obtain ⟨u', h1, h2⟩ := M v h
    exact ⟨u', h1, unkAt_same (same_new hp) h2⟩
  · obtain rfl : v = .ref p := by simpa using h
    exact ⟨u, hu, p, rfl, upd_same⟩
theorem nm_str {k z : Str} (h : (rank k).isSome = true) (n : k ≠ sIn) : NmU [.inr k, .inr z] := ⟨k, .inr z, rfl, h, ⟨fun ⟨i, e⟩ => absurd e (by intro z; cases z), fun e => absurd e n⟩⟩
theorem nm_in (i : Int) : NmU [.inr sIn, .inl i] := ⟨sIn, .inl i, rfl, by decide +kernel, ⟨fun _ => rfl, fun _ => ⟨i, rfl⟩⟩⟩
theorem nm_piece (z : Str) : NmU [.inr sPiece, .inr z] := nm_str (by decide +kernel) (by decide +kernel)
theorem nm_name (z : Str) : NmU [.inr sName, .inr z] := nm_str (by decide +kernel) (by decide +kernel)
/-- drawn multiples -/
def Mu (m : Int) : Prop := m.natAbs ≤ 10 ^ 20
theorem mu_sz {m : Int} (h : Mu m) : Sz m := Nat.lt_of_le_of_lt h (by decide)
def spPairs (K : PySem.W.Frag) : Sp := fun vs H Q _ => ∃ (p : Addr) (c : Nat), vs = [.ref p] ∧ Pool H p c ∧ c + 20 < 100000 ∧
  ∀ l xs ps H' c', Dr p H H' → Pool H' p c' → c' ≤ c + 11 → H l = none → H' l = some (.lst xs) → PySem.W.EachIs (PartT H') xs ps → (∀ u ∈ ps.map (·.1), Uk u) → ps.length ≤ 5 → (∀ q ∈ ps, Mu q.2) → Q (.ref l) H'
abbrev sPairs : Stmt := topS 38
theorem scPairs : FnScope ["pool", "menu", "found", "k"] ["pool"] (defScope sPairs) := ⟨rfl, rfl, rfl, by decide +kernel, rfl, by decide +kernel, by decide +kernel⟩
theorem sh_str {k z : Str} (h1 : k.length ≤ 1000) (h2 : z.length ≤ 1000) : shortP (unkD [.inr k, .inr z]) := ⟨h1, h2⟩
theorem sh_int {k : Str} {i : Int} (h1 : k.length ≤ 1000) : shortP (unkD [.inr k, .inl i]) := ⟨h1, trivial⟩
theorem sz2 : 2 ≤ sizeLine := by decide
theorem pool_same {H H' : Hp} {p : Addr} {c : Nat} (e : Same H H') (h : Pool H p c) : Pool H' p c := by
  obtain ⟨a, b, z, h1, h2⟩ := h.ex
  exact ⟨a, b, z, e _ _ h1, h2⟩
section
variable {P : Program} {w : World} {K : PySem.W.Frag} {mg : Str → Option Value} {base : Heap}
theorem ok_pairs {f : Addr} {fd : FuncData} (F : Fun K "_law_pairs" "_law_pairs" sPairs f fd) (T : Bi mg) (G1 : Has P w K mg base CX0 2 "_law_take" ["pool", "many"] spTake) (G2 : Has P w K mg base CX0 2 "_law_one" ["pool", "things"] (spOne K)) : FnOk P w K mg base CX0 3 f fd ["pool"] (spPairs K) := by
  refine F.ok scPairs (fun vs H Q E h => ?_) (fun cdv A outer s H vs Q E hr h => ?_)
  · obtain ⟨p, c, rfl, _⟩ := h
    rfl
  · obtain ⟨p, c, rfl, pl, hc, q⟩ := h
    refine ⟨_, (pss_cons (ps_set (i := 1) scPairs.nd rfl (.inl rfl) (pe_lst (pa_cons (pe_tup (pa_cons pe_str (pa_cons pe_str pa_nil))) (pa_cons (pe_tup (pa_cons pe_str (pa_cons pe_str pa_nil))) (pa_cons (pe_tup (pa_cons pe_str (pa_cons pe_str pa_nil))) (pa_cons (pe_tup (pa_cons pe_str (pa_cons pe_str pa_nil))) (pa_cons (pe_tup (pa_cons pe_str (pa_cons pe_str pa_nil))) (pa_cons (pe_tup (pa_cons pe_str (pa_cons pe_int pa_nil))) (pa_cons (pe_tup (pa_cons pe_str (pa_cons pe_int pa_nil))) (pa_cons (pe_tup (pa_cons pe_str (pa_cons pe_int pa_nil))) pa_nil))))))))))
      (pss_cons (ps_set (i := 2) scPairs.nd rfl (.inl rfl) (pe_lst pa_nil))
      (pss_cons (ps_for PassesOwn.never rfl (pi_range1 (by rfl) T.range (pa_cons (pe_callH G1 hr (by rfl) pass0 (pa_cons (pv 0) (pa_cons pe_int pa_nil))) pa_nil)) (pg_name (i := 3) scPairs.nd rfl (.inl rfl)) (pss_one (ps_expr (pe_bm PySem.F.plainAttrs_list PySem.F.slot_list_append PySem.F.type_list_append mt_append (pv 2) (pa_cons (pe_tup (pa_cons (pe_callH G2 hr (by rfl) pass0 (pa_cons (pv 0) (pa_cons (pv 1) pa_nil))) (pa_cons (pe_callH G2 hr (by rfl) pass0 (pa_cons (pv 0) (pa_cons (pe_lst (pa_cons pe_int (pa_cons pe_int (pa_cons (pe_un un_neg pe_int) (pa_cons pe_int (pa_cons pe_int (pa_cons (pe_op op_pow pe_int pe_int) (pa_cons (pe_un un_neg pe_int) pa_nil)))))))) pa_nil))) pa_nil))) pa_nil)))))
      (pss_one (ps_ret (pv 2)))))), ?_⟩
    refine ⟨sz2, fun p1 n1 => ⟨sz2, fun p2 n2 => ⟨sz2, fun p3 n3 => ⟨sz2, fun p4 n4 => ⟨sz2, fun p5 n5 => ⟨sz2, fun p6 n6 => ⟨sz2, fun p7 n7 => ⟨sz2, fun p8 n8 => ⟨(by show 8 ≤ sizeLine; decide), fun l hl => ⟨(by show 0 ≤ sizeLine; decide), fun D hD => ?_⟩⟩⟩⟩⟩⟩⟩⟩⟩⟩
    have M0 : MenuV H [] := fun v hv => by simp at hv
    have M8 : MenuV (upd (upd (upd (upd (upd (upd (upd (upd H p1 (.tup [V.str "piece", V.str "b"])) p2 (.tup [V.str "piece", V.str "a"])) p3 (.tup [V.str "piece", V.str "main"])) p4 (.tup [V.str "name", V.str "a"])) p5 (.tup [V.str "name", V.str "zz"])) p6 (.tup [V.str "in", V.int 2])) p7 (.tup [V.str "in", V.int 10])) p8 (.tup [V.str "in", V.int 1])) [V.ref p1, V.ref p2, V.ref p3, V.ref p4, V.ref p5, V.ref p6, V.ref p7, V.ref p8] := menu_snoc (menu_snoc (menu_snoc (menu_snoc (menu_snoc (menu_snoc (menu_snoc (menu_snoc M0 n1 ⟨nm_piece "b", by decide +kernel, sh_str (by decide +kernel) (by decide +kernel), List.mem_of_getElem? (i := 0) rfl⟩) n2 ⟨nm_piece "a", by decide +kernel, sh_str (by decide +kernel) (by decide +kernel), List.mem_of_getElem? (i := 1) rfl⟩) n3 ⟨nm_piece "main", by decide +kernel, sh_str (by decide +kernel) (by decide +kernel), List.mem_of_getElem? (i := 2) rfl⟩) n4 ⟨nm_name "a", by decide +kernel, sh_str (by decide +kernel) (by decide +kernel), List.mem_of_getElem? (i := 3) rfl⟩) n5 ⟨nm_name "zz", by decide +kernel, sh_str (by decide +kernel) (by decide +kernel), List.mem_of_getElem? (i := 4) rfl⟩) n6 ⟨nm_in 2, by decide +kernel, sh_int (by decide +kernel), List.mem_of_getElem? (i := 5) rfl⟩) n7 ⟨nm_in 10, by decide +kernel, sh_int (by decide +kernel), List.mem_of_getElem? (i := 6) rfl⟩) n8 ⟨nm_in 1, by decide +kernel, sh_int (by decide +kernel), List.mem_of_getElem? (i := 7) rfl⟩
    have sM : Same H (upd (upd (upd (upd (upd (upd (upd (upd H p1 (.tup [V.str "piece", V.str "b"])) p2 (.tup [V.str "piece", V.str "a"])) p3 (.tup [V.str "piece", V.str "main"])) p4 (.tup [V.str "name", V.str "a"])) p5 (.tup [V.str "name", V.str "zz"])) p6 (.tup [V.str "in", V.int 2])) p7 (.tup [V.str "in", V.int 10])) p8 (.tup [V.str "in", V.int 1])) :=
      (((((((same_new n1).trans (same_new n2)).trans (same_new n3)).trans (same_new n4)).trans (same_new n5)).trans (same_new n6)).trans (same_new n7)).trans (same_new n8)
    generalize (upd (upd (upd (upd (upd (upd (upd (upd H p1 (.tup [V.str "piece", V.str "b"])) p2 (.tup [V.str "piece", V.str "a"])) p3 (.tup [V.str "piece", V.str "main"])) p4 (.tup [V.str "name", V.str "a"])) p5 (.tup [V.str "name", V.str "zz"])) p6 (.tup [V.str "in", V.int 2])) p7 (.tup [V.str "in", V.int 10])) p8 (.tup [V.str "in", V.int 1])) = H8 at *
    have sl := same_new (o := .lst [V.ref p1, V.ref p2, V.ref p3, V.ref p4, V.ref p5, V.ref p6, V.ref p7, V.ref p8]) hl
    have sD := same_new (o := .lst []) hD
    have hl9 : (upd (upd H8 l (.lst [V.ref p1, V.ref p2, V.ref p3, V.ref p4, V.ref p5, V.ref p6, V.ref p7, V.ref p8])) D (.lst [])) l = some (.lst [V.ref p1, V.ref p2, V.ref p3, V.ref p4, V.ref p5, V.ref p6, V.ref p7, V.ref p8]) := sD _ _ upd_same
    have hD9 : (upd (upd H8 l (.lst [V.ref p1, V.ref p2, V.ref p3, V.ref p4, V.ref p5, V.ref p6, V.ref p7, V.ref p8])) D (.lst [])) D = some (.lst []) := upd_same
    have M9 : MenuV (upd (upd H8 l (.lst [V.ref p1, V.ref p2, V.ref p3, V.ref p4, V.ref p5, V.ref p6, V.ref p7, V.ref p8])) D (.lst [])) [V.ref p1, V.ref p2, V.ref p3, V.ref p4, V.ref p5, V.ref p6, V.ref p7, V.ref p8] := fun v hv => by
      obtain ⟨u, h1, h2⟩ := M8 v hv
      exact ⟨u, h1, unkAt_same (sl.trans sD) h2⟩
    have s9 := (sM.trans sl).trans sD
    have hDH : H D = none := by
      cases e : H D with
      | none => rfl
      | some o => rw [(sM.trans sl) _ _ e] at hD; cases hD
    generalize upd (upd H8 l (.lst [V.ref p1, V.ref p2, V.ref p3, V.ref p4, V.ref p5, V.ref p6, V.ref p7, V.ref p8])) D (.lst []) = H9 at hl9 hD9 M9 s9 ⊢
    have pl9 := pool_same s9 pl
    obtain ⟨pa, pb, pz, hp9, _⟩ := id pl9.ex
    have pD : p ≠ D := fun z => by
      rw [z, hD9] at hp9
      cases hp9
    have pL : p ≠ l := fun z => by
      rw [z, hl9] at hp9
      cases hp9
    have lD : l ≠ D := fun z => by
      rw [z, hD9] at hl9
      cases hl9
    refine ⟨_, rfl, p, c, 6, rfl, pl9, by omega, by decide, by decide, fun r o r0 r6 pl10 => ?_⟩
    refine ⟨_, rfl, by omega, by omega, ?_⟩
    have k10 : ∀ b x, b ≠ p → H9 b = some x → upd H9 p o b = some x := fun b x hb e => by rw [upd_ne hb]; exact e
    generalize upd H9 p o = H10 at pl10 k10 ⊢
    refine for_it walk_range (fun i σ H4 => ∃ (w : Option V) (xs : List V) (ps : Mul), σ = [some (.ref p), some (.ref l), some (.ref D), w] ∧ (∀ b x, b ≠ p → b ≠ D → H9 b = some x → H4 b = some x) ∧ Pool H4 p (c + 1 + 2 * i) ∧ H4 D = some (.lst xs) ∧ PySem.W.EachIs (PartT H4) xs ps ∧ (∀ u ∈ ps.map (·.1), Uk u) ∧ ps.length = i ∧ ∀ q ∈ ps, Mu q.2)
      ⟨none, [], [], rfl, fun b x hb _ e => k10 b x hb e, pl10, k10 _ _ pD.symm hD9, .nil, fun u hu => by simp at hu, rfl, fun q hq => by simp at hq⟩ (fun _ _ _ _ _ => trivial) ?_ ?_
    · rintro i x σ H4 H4' hi ⟨w, xs, ps, rfl, kp, plI, hD4, hxs, nm, hlen, mu⟩ ⟨rfl, rfl⟩
      have hi5 : i < 5 := by omega
      refine ⟨_, rfl, .inl ⟨rfl, _, SqL.of hD4⟩, _, rfl, _, rfl, p, l, c + 1 + 2 * i, _, rfl, plI, by omega, .inl (SqL.of (kp l _ pL.symm lD hl9)), pL.symm, (by show 0 < 8; decide), (by show 8 < 1000000; decide), fun v o1 hv pl1 => ?_⟩
      obtain ⟨u, nu, hu9⟩ := M9 v hv
      have k1 : ∀ b x, b ≠ p → H4' b = some x → upd H4' p o1 b = some x := fun b x hb e => by rw [upd_ne hb]; exact e
      generalize upd H4' p o1 = H5 at pl1 k1 ⊢
      refine ⟨_, rfl, 1, rfl, 10, 20, rfl, rfl, ⟨by decide, by decide, by decide⟩, 7, rfl, (by show 7 ≤ sizeLine; decide), fun l2 n2' => ?_⟩
      dsimp only
      have s2 := same_new (o := .lst [V.int 1, V.int 1, V.int (-1), V.int 2, V.int 0, V.int (10 ^ (20 : Int).toNat), V.int (-7)]) n2'
      have pl2 := pool_same s2 pl1
      have lp : l2 ≠ p := fun z => by
        obtain ⟨_, _, _, e, _⟩ := pl1.ex
        rw [← z, n2'] at e
        cases e
      refine ⟨p, l2, c + 1 + 2 * i + 1, _, rfl, pl2, by omega, .inl (SqL.of upd_same), lp, (by show 0 < 7; decide), (by show 7 < 1000000; decide), fun y o2 hy pl3 => ?_⟩
      have k2 : ∀ b x, b ≠ p → H5 b = some x → upd (upd H5 l2 (.lst [V.int 1, V.int 1, V.int (-1), V.int 2, V.int 0, V.int (10 ^ (20 : Int).toNat), V.int (-7)])) p o2 b = some x := fun b x hb e => by rw [upd_ne hb]; exact s2 _ _ e
      obtain ⟨m, rfl, hm⟩ : ∃ m, y = .int m ∧ Mu m := by
        simp only [List.mem_cons, List.not_mem_nil, or_false] at hy
        rcases hy with h | h | h | h | h | h | h
        · exact ⟨_, h, by unfold Mu; decide⟩
        · exact ⟨_, h, by unfold Mu; decide⟩
        · exact ⟨_, h, by unfold Mu; decide⟩
        · exact ⟨_, h, by unfold Mu; decide⟩
        · exact ⟨_, h, by unfold Mu; decide⟩
        · exact ⟨_, h, by unfold Mu; decide⟩
        · exact ⟨_, h, by unfold Mu; decide⟩
      have pl3' : Pool (upd (upd H5 l2 (.lst [V.int 1, V.int 1, V.int (-1), V.int 2, V.int 0, V.int (10 ^ (20 : Int).toNat), V.int (-7)])) p o2) p (c + 1 + 2 * (i + 1)) := pl3
      generalize upd (upd H5 l2 (.lst [V.int 1, V.int 1, V.int (-1), V.int 2, V.int 0, V.int (10 ^ (20 : Int).toNat), V.int (-7)])) p o2 = H7 at pl3' k2 ⊢
      have kk : ∀ b x, b ≠ p → H4' b = some x → H7 b = some x := fun b x hb e => k2 b x hb (k1 b x hb e)
      obtain ⟨e, rfl, he⟩ := hu9
      have ep : e ≠ p := fun z => by
        rw [z, hp9] at he
        cases he
      have eD : e ≠ D := fun z => by
        rw [z, hD9] at he
        cases he
      have he7 := kk _ _ ep (kp _ _ ep eD he)
      have hD7 := kk _ _ pD.symm hD4
      refine ⟨sz2, fun t nt => ?_⟩
      have st := same_new (o := .tup [V.ref e, V.int m]) nt
      have tD : t ≠ D := fun z => by rw [z, hD7] at nt; cases nt
      have ts7 : TupS (upd H7 t (.tup [V.ref e, V.int m])) (upd (upd H7 t (.tup [V.ref e, V.int m])) D (.lst (xs ++ [.ref t]))) := TupS.put (st _ _ hD7) (by intro xs z; cases z)
      have tk : TupS H4' H7 := fun b x hb => by
        refine kk b _ (fun z => ?_) hb
        obtain ⟨_, _, _, e', _⟩ := plI.ex
        rw [z, e'] at hb
        cases hb
      have ts := tk.trans ((TupS.of st).trans ts7)
      refine ⟨D, xs, .ref t, rfl, rfl, st _ _ hD7, ?_, some (.int (0 + (i : Int))), xs ++ [.ref t], ps ++ [(u, m)], rfl, fun b x hb hbD e => ?_, ?_, upd_same, ?_, ?_, ?_, ?_⟩
      · have := hxs.length
        exact small1000 (by omega)
      · rw [upd_ne hbD]
        exact st _ _ (kk b x hb (kp b x hb hbD e))
      · exact pool_put (pool_same st pl3') pD
      · exact eachs_snoc ⟨t, e, rfl, ts7 _ _ upd_same, ts7 _ _ (st _ _ he7)⟩ (eachs_imp (fun _ _ => partT_s ts) hxs)
      · intro u' hu'
        rw [List.map_append] at hu'
        rcases List.mem_append.mp hu' with z | z
        · exact nm u' z
        · have e' : u' = u := by simpa using z
          rw [e']
          exact nu
      · rw [List.length_append, hlen]
        rfl
      · intro q' hq'
        rcases List.mem_append.mp hq' with z | z
        · exact mu q' z
        · have e' : q' = (u, m) := by simpa using z
          rw [e']
          exact hm
    · rintro σ H4 ⟨w, xs, ps, rfl, kp, plI, hD4, hxs, nm, hlen, mu⟩
      refine ⟨_, rfl, q D xs ps H4 _ (fun b x hb e => kp b x hb (ne_of_none e hDH) (s9 _ _ e)) plI ?_ hDH hD4 hxs nm ?_ mu⟩
      · omega
      · omega
end
end DR

namespace DR
open PySem PySem.Spec PyProof.Rows L2
/-! ### == and != of data with any texts -/
def rEqP (K : PySem.W.Frag) : R2 := fun x y H Q => ∃ d e, Dp K H x d ∧ Dp K H y e ∧ d.plain = true ∧ e.plain = true ∧ d.depth ≤ 60 ∧ Q (.bl (PyData.eqv d e)) H
def rNeP (K : PySem.W.Frag) : R2 := fun x y H Q => ∃ d e, Dp K H x d ∧ Dp K H y e ∧ d.plain = true ∧ e.plain = true ∧ d.depth ≤ 60 ∧ Q (.bl (!PyData.eqv d e)) H
theorem op_eqP {X : Cx} {k : Nat} (hr : Room k X.A) : OpR X (compareOp .Eq) (rEqP X.K) := by
  intro pins s σ H x y v u Q I rx ry h
  obtain ⟨d, e, hd, he, sd, se, dp, q⟩ := h
  obtain ⟨as, r1⟩ := Dp.reads I d x v hd rx
  obtain ⟨bs, r2⟩ := Dp.reads I e y u he ry
  have hu := hr.units
  exact SeqAt.eq_plain r1 r2 sd se (by omega) ⟨.bl _, H, I, rfl, q⟩
theorem op_neP {X : Cx} {k : Nat} (hr : Room k X.A) : OpR X (compareOp .NotEq) (rNeP X.K) := by
  intro pins s σ H x y v u Q I rx ry h
  obtain ⟨d, e, hd, he, sd, se, dp, q⟩ := h
  obtain ⟨as, r1⟩ := Dp.reads I d x v hd rx
  obtain ⟨bs, r2⟩ := Dp.reads I e y u he ry
  have hu := hr.units
  exact SeqAt.ne_plain r1 r2 sd se (by omega) ⟨.bl _, H, I, rfl, q⟩
/-! ### parts told loosely -/
def LP (d : PyData) (q : List Key × Int) : Prop := d = .list [.list (q.1.map keyDat), .int q.2] ∨ d = .tuple [unkD q.1, .int q.2]
theorem readUnk_list (u : List Key) (h : NmU u) : readUnk (.list (u.map keyDat)) = readUnk (unkD u) := by
  obtain ⟨k, o, rfl, _⟩ := h
  rfl
theorem shortP_list (u : List Key) (h : NmU u) : shortP (.list (u.map keyDat)) = shortP (unkD u) := by
  obtain ⟨k, o, rfl, _⟩ := h
  rfl
theorem addPart_LP {d : PyData} {q : List Key × Int} (h : LP d q) (u : Uk q.1) (acc : Mul) : addPart acc d = some (addP acc q.1 q.2) := by
  rcases h with rfl | rfl
  · show (readUnk (.list (q.1.map keyDat))).map _ = _
    rw [readUnk_list _ u.nm, u.rd]
    rfl
  · show (readUnk (unkD q.1)).map _ = _
    rw [u.rd]
    rfl
theorem parts_read : ∀ (ds : List PyData) (l acc : Mul), PySem.W.EachIs LP ds l → (∀ q ∈ l, Uk q.1) → readParts ds acc = some (l.foldl (fun a q => addP a q.1 q.2) acc)
  | _, _, acc, .nil, _ => rfl
  | _, _, acc, .cons (b := q) h t, hu => by
    show (addPart acc _).bind (readParts _) = _
    rw [addPart_LP h (hu q (List.mem_cons_self ..)) acc]
    exact parts_read _ _ _ t fun q' hq => hu q' (List.mem_cons_of_mem _ hq)
theorem readUnk_nm {x : PyData} {u : List Key} (h : readUnk x = some u) : NmU u := by
  have go : ∀ (k : Str) (o : PyData), unkOf k o = some u → NmU u := fun k o e => by
    unfold unkOf at e
    cases hr : rank k with
    | none => rw [hr] at e; cases e
    | some i =>
      rw [hr] at e
      have e' : (ofKey k o).map (fun z => [.inr k, z]) = some u := e
      cases hk : ofKey k o with
      | none => rw [hk] at e'; cases e'
      | some z =>
        rw [hk] at e'
        obtain rfl := Option.some.inj e'
        refine ⟨k, z, rfl, by rw [hr]; rfl, ?_⟩
        unfold ofKey at hk
        by_cases c : k = sIn
        · rw [if_pos c] at hk
          refine ⟨fun _ => c, fun _ => ?_⟩
          cases o with
          | int i =>
            dsimp only at hk
            split at hk
            · exact ⟨i, (Option.some.inj hk).symm⟩
            · cases hk
          | _ => cases hk
        · rw [if_neg c] at hk
          refine ⟨fun ⟨i, ei⟩ => ?_, fun z => absurd z c⟩
          cases o with
          | str s =>
            dsimp only at hk
            split at hk
            · rw [ei] at hk
              cases hk
            · cases hk
          | _ => cases hk
  unfold readUnk at h
  split at h
  · exact go _ _ h
  · exact go _ _ h
  · cases h
theorem okPart_LP {d : PyData} {q : List Key × Int} (h : LP d q) (u : Uk q.1) : okPart d := by
  intro x m e
  refine ⟨?_, fun u' hu' => readUnk_nm hu'⟩
  rcases h with rfl | rfl
  · obtain ⟨rfl, _⟩ : x = .list (q.1.map keyDat) ∧ m = q.2 := by
      have := Option.some.inj e
      obtain ⟨h1, h2⟩ := List.cons.inj this
      exact ⟨h1.symm, (PyData.int.inj (List.cons.inj h2).1).symm⟩
    rw [shortP_list _ u.nm]
    exact u.sh
  · obtain ⟨rfl, _⟩ : x = unkD q.1 ∧ m = q.2 := by
      have := Option.some.inj e
      obtain ⟨h1, h2⟩ := List.cons.inj this
      exact ⟨h1.symm, (PyData.int.inj (List.cons.inj h2).1).symm⟩
    exact u.sh
theorem acc_perm {l m : Mul} (h : l.Perm m) (nm : ∀ u ∈ l.map (·.1), NmU u) : form (accAll l) = form (accAll m) := by
  obtain ⟨n1, e1⟩ := acc_go l [] List.nodup_nil
  obtain ⟨n2, e2⟩ := acc_go m [] List.nodup_nil
  refine form_eq n1 n2 (accA_nm nm) fun u => ?_
  unfold accAll
  rw [getI_lin n1, getI_lin n2, e1, e2, lin_perm h]
theorem each_perm {α β : Type} {R : α → β → Prop} {xs ys : List α} (p : ys.Perm xs) : ∀ {ps : List β}, PySem.W.EachIs R xs ps → ∃ qs, qs.Perm ps ∧ PySem.W.EachIs R ys qs := by
  induction p with
  | nil =>
    intro ps h
    exact ⟨ps, .refl _, h⟩
  | cons x _ ih =>
    intro ps h
    cases h with
    | cons h t =>
      obtain ⟨qs, q1, q2⟩ := ih t
      exact ⟨_ :: qs, q1.cons _, .cons h q2⟩
  | swap x y l =>
    intro ps h
    cases h with
    | cons h1 t => cases t with
      | cons h2 t => exact ⟨_ :: _ :: _, List.Perm.swap _ _ _, .cons h2 (.cons h1 t)⟩
  | trans _ _ i1 i2 =>
    intro ps h
    obtain ⟨qs, q1, q2⟩ := i2 h
    obtain ⟨rs, r1, r2⟩ := i1 q2
    exact ⟨rs, r1.trans q1, r2⟩
/-! ### a heap without the pool -/
theorem wo_dr {H H' : Hp} {p : Addr} (h : Dr p H H') : Same (wo H p) (wo H' p) := fun b x e => by
  by_cases hb : b = p
  · rw [hb] at e
    unfold wo at e
    rw [if_pos rfl] at e
    cases e
  · rw [wo_ne hb] at e
    rw [wo_ne hb]
    exact h b x hb e
theorem wo_dr2 {H H' : Hp} {p D : Addr} (h : ∀ b x, b ≠ p → b ≠ D → H b = some x → H' b = some x) : Same (wo (wo H p) D) (wo (wo H' p) D) := fun b x e => by
  by_cases hD : b = D
  · rw [hD] at e
    unfold wo at e
    rw [if_pos rfl] at e
    cases e
  · rw [wo_ne hD] at e
    rw [wo_ne hD]
    by_cases hb : b = p
    · rw [hb] at e
      unfold wo at e
      rw [if_pos rfl] at e
      cases e
    · rw [wo_ne hb] at e
      rw [wo_ne hb]
      exact h b x hb hD e
end DR

namespace DR
open PySem PySem.Spec PyProof.Rows L2
/-! ### _law_loose -/
def rListOf (K : PySem.W.Frag) : List V → Hp → VK → Prop := fun xs H Q => ∃ p ys, xs = [.ref p] ∧ (SqL K H p ys ∨ SqT K H p ys) ∧ ∀ l, H l = none → Q (.ref l) (upd H l (.lst ys))
theorem cr_listOf {X : Cx} : CallR X (.type "list") (rListOf X.K) := call_list_of
def rTupOf (K : PySem.W.Frag) : List V → Hp → VK → Prop := fun xs H Q => ∃ p ys, xs = [.ref p] ∧ ((SqL K H p ys ∧ ∀ l, H l = none → Q (.ref l) (upd H l (.tup ys))) ∨ (SqT K H p ys ∧ Q (.ref p) H))
theorem cr_tupOf {X : Cx} : CallR X (.type "tuple") (rTupOf X.K) := call_tuple_of
abbrev tFin (K : PySem.W.Frag) : TS := tRet (tTup (tCons (tCall (spOne K) [] E0 (tCons (tVar 0) (tCons (tLst (tCons (tTup (tCons (tVar 1) (tCons (tVar 4) tNil))) (tCons (tLst (tCons (tVar 1) (tCons (tCB (rTupOf K) (tCons (tVar 4) tNil)) tNil))) tNil))) tNil))) (tCons (tVar 3) tNil)))
theorem tup_wo {H : Hp} {p : Addr} {c : Nat} (h : Pool H p c) : TupS H (wo H p) := fun b x hb => by
  obtain ⟨_, _, _, e, _⟩ := h.ex
  rw [wo_ne (fun z => by
    rw [z, e] at hb
    cases hb)]
  exact hb
theorem plain_parts {ps : Mul} (h : ∀ u ∈ ps.map (·.1), NmU u) : PyData.plainAll (ps.map partD) = true := by
  induction ps with
  | nil => rfl
  | cons q l ih =>
    have h1 := plain_unkD (h q.1 (List.mem_cons_self ..))
    have h2 := ih fun u hu => h u (List.mem_cons_of_mem _ hu)
    rw [List.map_cons]
    simp [PyData.plainAll, partD, PyData.plain, h1, h2]
theorem depth_parts {ps : Mul} (h : ∀ u ∈ ps.map (·.1), NmU u) : PyData.depthAll (ps.map partD) ≤ 5 := by
  induction ps with
  | nil => simp [PyData.depthAll]
  | cons q l ih =>
    have h2 := ih fun u hu => h u (List.mem_cons_of_mem _ hu)
    obtain ⟨k, o, e, _⟩ := h q.1 (List.mem_cons_self ..)
    have h3 : (partD q).depth ≤ 5 := by
      unfold partD
      rw [e]
      cases o <;> simp [unkD, keyDat, PyData.depth, PyData.depthAll]
    rw [List.map_cons, PyData.depthAll]
    exact Nat.max_le.mpr ⟨h3, h2⟩
theorem form_nm {l : Mul} (h : ∀ u ∈ l.map (·.1), NmU u) : ∀ u ∈ (form l).map (·.1), NmU u := fun u hu => by
  unfold form at hu
  rw [List.map_map] at hu
  obtain ⟨x, hx, rfl⟩ := List.mem_map.mp hu
  exact keysN_nm h x (mem_sort hx)
abbrev tElt (K : PySem.W.Frag) : TE := tCall (spOne K) [] E0 (tCons (tVar 0) (tCons (tLst (tCons (tLst (tCons (tCB (rListOf K) (tCons (tVar 5) tNil)) (tCons (tVar 6) tNil))) (tCons (tTup (tCons (tVar 5) (tCons (tVar 6) tNil))) tNil))) tNil))
/-- what is handed in as a sum of n and l -/
def Shape (d : PyData) (n : Int) (l : Mul) : Prop := (∃ ds l', d = .tuple [.int n, .list ds] ∧ PySem.W.EachIs LP ds l' ∧ l'.Perm l) ∨ (∃ ds l', d = .list [.int n, .tuple ds] ∧ PySem.W.EachIs LP ds l' ∧ l'.Perm l) ∨ (d = .int n ∧ l = [])
theorem dr_tup {H H' : Hp} {p : Addr} {c : Nat} (d : Dr p H H') (h : Pool H p c) : TupS H H' := fun b x hb => by
  refine d b _ (fun z => ?_) hb
  obtain ⟨_, _, _, e, _⟩ := h.ex
  rw [z, e] at hb
  cases hb
theorem pool_ne' {H : Hp} {p a : Addr} {c : Nat} {x : HO} (h : Pool H p c) (e : H a = some x) (n : ∀ i j k, x ≠ .lst [V.int i, V.int j, V.int k]) : a ≠ p := fun z => by
  obtain ⟨_, _, _, e', _⟩ := h.ex
  rw [z, e'] at e
  exact n _ _ _ (Option.some.inj e).symm
theorem wo2_at {H : Hp} {p D a : Addr} {x : HO} (h : H a = some x) (h1 : a ≠ p) (h2 : a ≠ D) : wo (wo H p) D a = some x := by
  rw [wo_ne h2, wo_ne h1]
  exact h
def spLoose (K : PySem.W.Frag) : Sp := fun vs H Q _ => ∃ (p : Addr) (c : Nat) (n : Int) (l : Addr) (xs : List V) (ps : Mul), vs = [.ref p, .int n, .ref l] ∧ Pool H p c ∧ c + 40 < 100000 ∧ H l = some (.lst xs) ∧ PySem.W.EachIs (PartT H) xs ps ∧ (∀ u ∈ ps.map (·.1), Uk u) ∧ ps.length ≤ 5 ∧
  ∀ t x y d H' c', Dr p H H' → Pool H' p c' → c' ≤ c + 20 → H' t = some (.tup [x, y]) → Dp K (wo H' p) x d → Shape d n ps → SumT (wo H' p) y n (form (accAll ps)) → Q (.ref t) H'
abbrev sLoose : Stmt := topS 39
theorem scLoose : FnScope ["pool", "number", "pairs", "due", "some", "unknown", "many"] ["pool", "number", "pairs"] (defScope sLoose) := ⟨rfl, rfl, rfl, by decide +kernel, rfl, by decide +kernel, by decide +kernel⟩
section
variable {P : Program} {w : World} {K : PySem.W.Frag} {mg : Str → Option Value} {base : Heap}
theorem ok_loose {f : Addr} {fd : FuncData} (F : Fun K "_law_loose" "_law_loose" sLoose f fd) (T : Bi mg) (G1 : Has P w K mg base CX0 4 "_law_total" ["number", "pairs"] (spTotal K)) (G2 : Has P w K mg base CX0 4 "_law_one" ["pool", "things"] (spOne K))
    (G3 : Has P w K mg base CX0 4 "_law_mixed" ["pool", "things"] (spMixed K)) (G4 : Has P w K mg base CX0 4 "_law_take" ["pool", "many"] spTake) : FnOk P w K mg base CX0 5 f fd ["pool", "number", "pairs"] (spLoose K) := by
  refine F.ok scLoose (fun vs H Q E h => ?_) (fun cdv A outer s H vs Q E hr h => ?_)
  · obtain ⟨p, c, n, l, xs, ps, rfl, _⟩ := h
    rfl
  · obtain ⟨p, c, n, l, xs, ps, rfl, pl, hc, hl, hxs, uk, few, q⟩ := h
    have hu := hu_of hr
    refine ⟨_, (pss_cons (ps_set (i := 3) scLoose.nd rfl (.inl rfl) (pe_callH G1 hr (by rfl) pass0 (pa_cons (pv 1) (pa_cons (pv 2) pa_nil))))
      (pss_cons (ps_setLc (i := 4) (own := [("unknown", 5), ("many", 6)]) (g := gTup K 2 (gCons (gName 5) (gCons (gName 6) gNil))) (tt := tYes) (te := tElt K) rfl scLoose.nd rfl rfl (sw_true rfl rfl rfl (by decide +kernel)) (pi_list (pe_callH G3 hr (by rfl) pass0 (pa_cons (pv 0) (pa_cons (pv 2) pa_nil)))) (blkOk_by (N := ["pool", "number", "pairs", "due", "some", "unknown", "many"]) (sc := defScope sLoose) (by decide +kernel)) (fun _ _ _ _ _ => (pg_tup rfl (pgs_cons (pg_name (i := 5) scLoose.nd rfl (.inl rfl)) (pgs_cons (pg_name (i := 6) scLoose.nd rfl (.inl rfl)) pgs_nil)))) (fun _ _ _ _ _ => pts_nil)
          (fun _ _ _ _ _ => (pe_callH G2 hr (by rfl) pass0 (pa_cons (pv 0) (pa_cons (pe_lst (pa_cons (pe_lst (pa_cons (pe_callTy cr_listOf (by rfl) T.list (by decide +kernel) (pa_cons (pv 5) pa_nil)) (pa_cons (pv 6) pa_nil))) (pa_cons (pe_tup (pa_cons (pv 5) (pa_cons (pv 6) pa_nil))) pa_nil))) pa_nil)))))
      (pss_cons (ps_if (PW.pt (pw_and (pt_cmpR (op_eqP hr) (pe_ix ix_tup (pv 3) pe_int (fun _ _ => rfl)) (pe_tup pa_nil) (nomark _)) (pw_and (pt_cmpR (op_eqP hr) (pv 2) (pe_lst pa_nil) (nomark _)) (pw_and1 (pt_cmpR op_eq (pe_callH G4 hr (by rfl) pass0 (pa_cons (pv 0) (pa_cons pe_int pa_nil))) pe_int (nomark _)))))) (pss_one (ps_ret (pe_tup (pa_cons (pv 1) (pa_cons (pv 3) pa_nil))))) pss_nil)
      (pss_one (ps_ret (pe_tup (pa_cons (pe_callH G2 hr (by rfl) pass0 (pa_cons (pv 0) (pa_cons (pe_lst (pa_cons (pe_tup (pa_cons (pv 1) (pa_cons (pv 4) pa_nil))) (pa_cons (pe_lst (pa_cons (pv 1) (pa_cons (pe_callTy cr_tupOf (by rfl) T.tuple (by decide +kernel) (pa_cons (pv 4) pa_nil)) pa_nil))) pa_nil))) pa_nil))) (pa_cons (pv 3) pa_nil)))))))), ?_⟩
    have nm : ∀ u ∈ ps.map (·.1), NmU u := fun u hu => (uk u hu).nm
    refine ⟨_, rfl, _, rfl, n, l, xs, ps, rfl, .inl (SqL.of hl), hxs, nm, by omega, fun v1 H1 s1 h1 => ?_⟩
    have lx : xs.length = ps.length := hxs.length
    have pl1 := pool_same s1 pl
    have hxs1 : PySem.W.EachIs (PartT H1) xs ps := eachs_imp (fun _ _ => partT_s (TupS.of s1)) hxs
    refine ⟨_, rfl, _, rfl, p, l, c, xs, rfl, pl1, by omega, .inl (SqL.of (s1 _ _ hl)), by omega, fun l2 ys H2 pm dr pl2 n2 hl2 => ?_⟩
    have t12 := dr_tup dr pl1
    have h2due : SumT H2 v1 n (form (accAll ps)) := sumT_s t12 h1
    obtain ⟨qs, qp, hys⟩ := each_perm pm (eachs_imp (fun _ _ => partT_s t12) hxs1)
    have lp : l2 ≠ p := fun z => by
      obtain ⟨_, _, _, e, _⟩ := pl1.ex
      rw [← z, n2] at e
      cases e
    have ly : ys.length = qs.length := hys.length
    have lq : qs.length = ps.length := qp.length_eq
    refine ⟨l2, rfl, ⟨_, SqL.of hl2⟩, fun D hD => ?_⟩
    have Dp' : D ≠ p := fun z => by
      obtain ⟨_, _, _, e, _⟩ := pl2.ex
      rw [← z, hD] at e
      cases e
    refine lc_it (walk_list (xs := ys)) (fun i H4 => (∀ b x, b ≠ p → b ≠ D → H2 b = some x → H4 b = some x) ∧ Pool H4 p (c + xs.length + i) ∧ ∃ zs ds, H4 D = some (.lst zs) ∧ zs.length = i ∧ DpAll K (wo (wo H4 p) D) zs ds ∧ PySem.W.EachIs LP ds (qs.take i))
      ⟨fun b x _ hb e => by rw [upd_ne hb]; exact e, pool_put pl2 Dp'.symm, [], [], upd_same, rfl, .nil, .nil⟩ (fun i H4 _ ⟨kp, _⟩ => SqL.of (kp _ _ lp (ne_of_none hl2 hD) hl2)) ?_ ?_
    · rintro i x H4 H4' hi ⟨kp, plI, zs, ds, hD4, hlz, hds, hlp⟩ ⟨rfl, hx⟩
      obtain ⟨u, m, cc, e, hum, rfl, hc2, he2⟩ := part_get hys hx
      have ecp := pool_ne' pl2 hc2 (by intro i j k z; cases z)
      have eep := pool_ne' pl2 he2 (by intro i j k z; cases z)
      have hc4 := kp _ _ ecp (ne_of_none hc2 hD) hc2
      have he4 := kp _ _ eep (ne_of_none he2 hD) he2
      have hi2 : i < qs.length := (List.getElem?_eq_some_iff.mp hum).1
      refine ⟨cc, _, rfl, SqT.of hc4, rfl, _, _, rfl, _, _, rfl, rfl, rfl, yes_go (iteT ?_)⟩
      refine ⟨_, rfl, _, rfl, e, _, rfl, .inr (SqT.of he4), fun l1 n1 => ⟨_, rfl, sz2, fun k1 m1 => ⟨_, rfl, _, rfl, sz2, fun t nt => ⟨sz2, fun l3 n3 => ?_⟩⟩⟩⟩
      obtain ⟨kk, oo, eu, _⟩ : NmU u := nm u (by
        have := List.mem_of_getElem? hum
        exact List.mem_map.mpr ⟨_, qp.mem_iff.mp this, rfl⟩)
      have sa := same_new (o := .lst (u.map kV)) n1
      have sb := same_new (o := .lst [V.ref l1, V.int m]) m1
      have sc := same_new (o := .tup [V.ref e, V.int m]) nt
      have sd := same_new (o := .lst [V.ref k1, V.ref t]) n3
      have S := ((sa.trans sb).trans sc).trans sd
      have plD := pool_same S plI
      have l3p : l3 ≠ p := fun z => by
        obtain ⟨_, _, _, e, _⟩ := (pool_same ((sa.trans sb).trans sc) plI).ex
        rw [← z, n3] at e
        cases e
      have hl1 := sd _ _ (sc _ _ (sb _ _ (upd_same (H := H4') (a := l1) (o := .lst (u.map kV)))))
      have hk1 := sd _ _ (sc _ _ (upd_same (H := upd H4' l1 (.lst (u.map kV))) (a := k1) (o := .lst [V.ref l1, V.int m])))
      have ht := sd _ _ (upd_same (H := upd (upd H4' l1 (.lst (u.map kV))) k1 (.lst [V.ref l1, V.int m])) (a := t) (o := .tup [V.ref e, V.int m]))
      have hl3 := upd_same (H := upd (upd (upd H4' l1 (.lst (u.map kV))) k1 (.lst [V.ref l1, V.int m])) t (.tup [V.ref e, V.int m])) (a := l3) (o := .lst [V.ref k1, V.ref t])
      have l1D : l1 ≠ D := (ne_of_none hD4 n1).symm
      have k1D : k1 ≠ D := (ne_of_none (sa _ _ hD4) m1).symm
      have tD : t ≠ D := (ne_of_none ((sa.trans sb) _ _ hD4) nt).symm
      generalize upd (upd (upd (upd H4' l1 (.lst (u.map kV))) k1 (.lst [V.ref l1, V.int m])) t (.tup [V.ref e, V.int m])) l3 (.lst [V.ref k1, V.ref t]) = Hd at S plD hl1 hk1 ht hl3 ⊢
      have l1p : l1 ≠ p := pool_ne' plD hl1 (by
        rw [eu]
        intro i j k z
        cases z)
      have k1p : k1 ≠ p := pool_ne' plD hk1 (by intro i j k z; cases z)
      have tp : t ≠ p := pool_ne' plD ht (by intro i j k z; cases z)
      refine ⟨p, l3, c + xs.length + i, _, rfl, plD, by omega, .inl (SqL.of hl3), l3p, (by show 0 < 2; decide), (by show 2 < 1000000; decide), fun v o hv pl5 => ?_⟩
      have kE : ∀ b x, b ≠ p → Hd b = some x → upd Hd p o b = some x := fun b x hb e => by rw [upd_ne hb]; exact e
      generalize upd Hd p o = He at pl5 kE ⊢
      have hDE := kE _ _ Dp' (S _ _ hD4)
      have kF : ∀ b x, b ≠ p → b ≠ D → Hd b = some x → upd He D (.lst (zs ++ [v])) b = some x := fun b x hb hbD e => by
        rw [upd_ne hbD]
        exact kE b x hb e
      have kk4 : ∀ b x, b ≠ p → b ≠ D → H4' b = some x → upd He D (.lst (zs ++ [v])) b = some x := fun b x hb hbD e => kF b x hb hbD (S _ _ e)
      obtain ⟨d, hd, hlpd⟩ : ∃ d, Dp K (wo (wo (upd He D (.lst (zs ++ [v]))) p) D) v d ∧ LP d (u, m) := by
        simp only [List.mem_cons, List.not_mem_nil, or_false] at hv
        rcases hv with rfl | rfl
        · exact ⟨_, .lst (SqL.of (wo2_at (kF _ _ k1p k1D hk1) k1p k1D)) (.cons (.lst (SqL.of (wo2_at (kF _ _ l1p l1D hl1) l1p l1D)) (dps_keys u)) (.cons (.int m) .nil)), .inl rfl⟩
        · exact ⟨_, .tup (SqT.of (wo2_at (kF _ _ tp tD ht) tp tD)) (.cons (dp_unk ⟨e, rfl, wo2_at (kk4 _ _ eep (ne_of_none he2 hD) he4) eep (ne_of_none he2 hD)⟩) (.cons (.int m) .nil)), .inr rfl⟩
      refine ⟨zs, hDE, small1000 (by omega), fun b x hb hbD e' => kk4 b x hb hbD (kp b x hb hbD e'), pool_put pl5 Dp'.symm, zs ++ [v], ds ++ [d], upd_same, ?_, dps_snoc hd (dps_same (wo_dr2 kk4) hds), ?_⟩
      · rw [List.length_append, hlz]
        rfl
      · rw [List.take_add_one, hum]
        exact eachs_snoc hlpd hlp
    · rintro H4 ⟨kp, plI, zs, ds, hD4, hlz, hds, hlp⟩
      rw [ly, List.take_length] at hlp
      have k24 : Dr p H2 H4 := fun b x hb e => kp b x hb (ne_of_none e hD) e
      have t24 := dr_tup k24 pl2
      have h4due := sumT_s t24 h2due
      have dr4 : Dr p H H4 := fun b x hb e => k24 b x hb (dr b x hb (s1 _ _ e))
      have lzs : zs.length ≤ 5 := by omega
      have plI' : Pool H4 p (c + xs.length + ys.length) := plI
      have fin : ∀ (H5 : Hp) (c5 : Nat), Dr p H4 H5 → Pool H5 p c5 → c5 ≤ c + 12 → tFin K { nx := fun _ H' => Q .non H', rt := Q } [some (.ref p), some (.int n), some (.ref l), some v1, some (.ref D), none, none] H5 := by
        intro H5 c5 k45 pl5 hc5
        have hD5 := k45 _ _ Dp' hD4
        refine ⟨_, rfl, _, rfl, _, rfl, sz2, fun a1 n1 => ⟨_, rfl, _, rfl, D, zs, rfl, .inl ⟨SqL.of (same_new n1 _ _ hD5), fun t1 m1 => ⟨sz2, fun b1 n3 => ⟨sz2, fun l5 n5 => ?_⟩⟩⟩⟩⟩
        have sa := same_new (o := .tup [V.int n, V.ref D]) n1
        have sb := same_new (o := .tup zs) m1
        have sc := same_new (o := .lst [V.int n, V.ref t1]) n3
        have sd := same_new (o := .lst [V.ref a1, V.ref b1]) n5
        have S := ((sa.trans sb).trans sc).trans sd
        have plD := pool_same S pl5
        have l5p : l5 ≠ p := fun z => by
          obtain ⟨_, _, _, e, _⟩ := (pool_same ((sa.trans sb).trans sc) pl5).ex
          rw [← z, n5] at e
          cases e
        have ha1 := sd _ _ (sc _ _ (sb _ _ (upd_same (H := H5) (a := a1) (o := .tup [V.int n, V.ref D]))))
        have ht1 := sd _ _ (sc _ _ (upd_same (H := upd H5 a1 (.tup [V.int n, V.ref D])) (a := t1) (o := .tup zs)))
        have hb1 := sd _ _ (upd_same (H := upd (upd H5 a1 (.tup [V.int n, V.ref D])) t1 (.tup zs)) (a := b1) (o := .lst [V.int n, V.ref t1]))
        have hl5 := upd_same (H := upd (upd (upd H5 a1 (.tup [V.int n, V.ref D])) t1 (.tup zs)) b1 (.lst [V.int n, V.ref t1])) (a := l5) (o := .lst [V.ref a1, V.ref b1])
        generalize upd (upd (upd (upd H5 a1 (.tup [V.int n, V.ref D])) t1 (.tup zs)) b1 (.lst [V.int n, V.ref t1])) l5 (.lst [V.ref a1, V.ref b1]) = Hd at S plD ha1 ht1 hb1 hl5 ⊢
        have a1p : a1 ≠ p := pool_ne' plD ha1 (by intro i j k z; cases z)
        have t1p : t1 ≠ p := pool_ne' plD ht1 (by intro i j k z; cases z)
        have b1p : b1 ≠ p := pool_ne' plD hb1 (by intro i j k z; cases z)
        refine ⟨p, l5, c5, _, rfl, plD, by omega, .inl (SqL.of hl5), l5p, (by show 0 < 2; decide), (by show 2 < 1000000; decide), fun v o hv pl6 => ?_⟩
        have kE : ∀ b x, b ≠ p → Hd b = some x → upd Hd p o b = some x := fun b x hb e => by rw [upd_ne hb]; exact e
        generalize upd Hd p o = He at pl6 kE ⊢
        refine ⟨_, rfl, sz2, fun r nr => ?_⟩
        have sr := same_new (o := .tup [v, v1]) nr
        have plF := pool_same sr pl6
        have kF : Dr p Hd (upd He r (.tup [v, v1])) := fun b x hb e => sr _ _ (kE b x hb e)
        have k4F : Dr p H4 (upd He r (.tup [v, v1])) := fun b x hb e => kF b x hb (S _ _ (k45 b x hb e))
        have hDF := k4F _ _ Dp' hD4
        have w4F := wo_dr k4F
        have dsF : DpAll K (wo (upd He r (.tup [v, v1])) p) zs ds := dps_same w4F (dps_same wo_same hds)
        have wat : ∀ {a : Addr} {x : HO}, a ≠ p → (upd He r (.tup [v, v1])) a = some x → wo (upd He r (.tup [v, v1])) p a = some x := fun h1 h2 => by
          rw [wo_ne h1]
          exact h2
        have dueF : SumT (wo (upd He r (.tup [v, v1])) p) v1 n (form (accAll ps)) := sumT_s ((dr_tup k4F plI').trans (tup_wo plF)) h4due
        have go : ∀ d, Dp K (wo (upd He r (.tup [v, v1])) p) v d → Shape d n ps → Q (.ref r) (upd He r (.tup [v, v1])) := fun d hd hsh =>
          q r v v1 d _ _ (fun b x hb e => k4F b x hb (dr4 b x hb e)) plF (by omega) upd_same hd hsh dueF
        simp only [List.mem_cons, List.not_mem_nil, or_false] at hv
        rcases hv with rfl | rfl
        · exact go _ (.tup (SqT.of (wat a1p (kF _ _ a1p ha1))) (.cons (.int n) (.cons (.lst (SqL.of (wat Dp' hDF)) dsF) .nil))) (.inl ⟨ds, qs, rfl, hlp, qp⟩)
        · exact go _ (.lst (SqL.of (wat b1p (kF _ _ b1p hb1))) (.cons (.int n) (.cons (.tup (SqT.of (wat t1p (kF _ _ t1p ht1))) dsF) .nil))) (.inr (.inl ⟨ds, qs, rfl, hlp, qp⟩))
      obtain ⟨a, b, vs, rfl, ha, hb, hvs⟩ := id h4due
      have fnm := form_nm (accA_nm nm)
      have hps := parts_dp (K := K) hvs
      refine ⟨_, rfl, a, _, _, _, rfl, rfl, SqT.of ha, at_of (i := 1) rfl, (by show 0 ≤ sizeLine; decide), fun e0 ne0 => ?_⟩
      have se := same_new (o := .tup []) ne0
      refine ⟨.tuple ((form (accAll ps)).map partD), .tuple [], .tup (SqT.of (se _ _ hb)) (dps_same se hps), .tup (SqT.of upd_same) .nil, ?_, rfl, ?_, ?_⟩
      · have := plain_parts fnm
        simp [PyData.plain, this]
      · have := depth_parts fnm
        simp only [PyData.depth]
        omega
      have k4e : Dr p H4 (upd H4 e0 (.tup [])) := fun b x _ e => se b x e
      have ple := pool_same se plI'
      refine ⟨_, rfl, ?_⟩
      cases c1 : PyData.eqv (.tuple ((form (accAll ps)).map partD)) (.tuple []) with
      | false => exact iteF (fin _ _ k4e ple (by omega))
      | true =>
      refine iteT ⟨_, rfl, (by show 0 ≤ sizeLine; decide), fun e1 ne1 => ?_⟩
      have sf := same_new (o := .lst []) ne1
      have lnp : l ≠ p := pool_ne' pl hl (by
        intro i j k z
        have e := HO.lst.inj z
        rw [e] at hxs
        have go : ∀ {qs : Mul}, PySem.W.EachIs (PartT H) [V.int i, V.int j, V.int k] qs → False := fun h => by
          cases h with
          | cons h1 _ =>
            obtain ⟨c', e', zz, _⟩ := h1
            exact absurd zz (by intro y; cases y)
        exact go hxs)
      have kxf : Dr p H (upd (upd H4 e0 (.tup [])) e1 (.lst [])) := fun b x hb e => sf _ _ (se _ _ (dr4 b x hb e))
      have plf := pool_same sf ple
      have hlf := kxf _ _ lnp hl
      have hxf : PySem.W.EachIs (PartT (upd (upd H4 e0 (.tup [])) e1 (.lst []))) xs ps := eachs_imp (fun _ _ => partT_s (dr_tup kxf pl)) hxs
      refine ⟨.list (ps.map partD), .list [], .lst (SqL.of hlf) (parts_dp hxf), .lst (SqL.of upd_same) .nil, ?_, rfl, ?_, ?_⟩
      · have := plain_parts nm
        simp [PyData.plain, this]
      · have := depth_parts nm
        simp only [PyData.depth]
        omega
      have k4f : Dr p H4 (upd (upd H4 e0 (.tup [])) e1 (.lst [])) := fun b x _ e => sf _ _ (se _ _ e)
      refine ⟨_, rfl, ?_⟩
      cases c2 : PyData.eqv (.list (ps.map partD)) (.list []) with
      | false => exact iteF (fin _ _ k4f plf (by omega))
      | true =>
      have pe : ps = [] := by
        cases ps with
        | nil => rfl
        | cons q' l' =>
          have z : PyData.eqvAll ((q' :: l').map partD) [] = false := SeqAt.eqvAll_other_length (by simp)
          have c3 : PyData.eqvAll ((q' :: l').map partD) [] = true := c2
          rw [z] at c3
          cases c3
      refine iteT ⟨_, rfl, p, _, 2, rfl, plf, by omega, by decide, by decide, fun r o r0 r2 plg => ?_⟩
      have kg : ∀ b x, b ≠ p → (upd (upd H4 e0 (.tup [])) e1 (.lst [])) b = some x → upd (upd (upd H4 e0 (.tup [])) e1 (.lst [])) p o b = some x := fun b x hb e => by rw [upd_ne hb]; exact e
      generalize upd (upd (upd H4 e0 (.tup [])) e1 (.lst [])) p o = Hg at kg plg ⊢
      have k4g : Dr p H4 Hg := fun b x hb e => kg b x hb (k4f b x hb e)
      refine ⟨rfl, _, rfl, ?_⟩
      refine ite2 (fun c3 => ?_) (fun c3 => fin _ _ k4g plg (by omega))
      refine ⟨_, rfl, _, rfl, sz2, fun r' nr => ?_⟩
      have sr := same_new (o := .tup [V.int n, V.ref a]) nr
      have k4F : Dr p H4 (upd Hg r' (.tup [V.int n, V.ref a])) := fun b x hb e => sr _ _ (k4g b x hb e)
      have plF := pool_same sr plg
      exact q r' (.int n) (.ref a) (.int n) _ _ (fun b x hb e => k4F b x hb (dr4 b x hb e)) plF (by omega) upd_same (.int n) (.inr (.inr ⟨rfl, pe⟩)) (sumT_s ((dr_tup k4F plI').trans (tup_wo plF)) h4due)
end
end DR

namespace DR
open PySem PySem.Spec PyProof.Rows L2
/-! ### _law_put -/
def putL (g : Wo) (s : Int × Mul) (q : List Key × Int) : Int × Mul := (s.1 + q.2 * (worthOf g q.1).1, form (accAll (s.2 ++ scal q.2 (worthOf g q.1).2)))
theorem form_len (l : Mul) : (form l).length ≤ l.length := by
  unfold form
  rw [List.length_map, (List.mergeSort_perm _ _).length_eq]
  unfold keysN
  refine Nat.le_trans (List.length_filter_le _ _) ?_
  rw [List.length_map]
  exact Nat.le_refl _
theorem putL_len {g : Wo} {ps : Mul} (h : Puts g ps) : ∀ (l : Mul) (s : Int × Mul), (∀ q ∈ l, q ∈ ps) → (l.foldl (putL g) s).2.length ≤ s.2.length + 25 * l.length
  | [], s, _ => by simp
  | q :: l, s, hl => by
    rw [List.foldl_cons]
    refine Nat.le_trans (putL_len h l _ fun x hx => hl x (List.mem_cons_of_mem _ hx)) ?_
    have hw := (h.w (h.nm q.1 (List.mem_map.mpr ⟨q, hl q (List.mem_cons_self ..), rfl⟩))).1
    have h1 := form_len (accAll (s.2 ++ scal q.2 (worthOf g q.1).2))
    have h2 := accA_len (s.2 ++ scal q.2 (worthOf g q.1).2)
    rw [List.length_append, scal_len] at h2
    rw [List.length_cons]
    show (form (accAll _)).length + _ ≤ _
    omega
theorem putL_nm {g : Wo} {ps : Mul} (h : Puts g ps) : ∀ (l : Mul) (s : Int × Mul), (∀ q ∈ l, q ∈ ps) → (∀ u ∈ s.2.map (·.1), NmU u) → ∀ u ∈ (l.foldl (putL g) s).2.map (·.1), NmU u
  | [], s, _, hs => hs
  | q :: l, s, hl, hs => by
    rw [List.foldl_cons]
    refine putL_nm h l _ (fun x hx => hl x (List.mem_cons_of_mem _ hx)) (form_nm (accA_nm fun u hu => ?_))
    rw [List.map_append, scal_keys] at hu
    rcases List.mem_append.mp hu with z | z
    · exact hs u z
    · exact (h.w (h.nm q.1 (List.mem_map.mpr ⟨q, hl q (List.mem_cons_self ..), rfl⟩))).2.1 u z
/-! the law's way and the program's come to one -/
/-- what is put in, as a sum over parts -/
def subF (g : Wo) (F : List Key → Int) (u : List Key) : Int := lin F (worthOf g u).2
theorem lin_scal (F : List Key → Int) (k : Int) : ∀ l : Mul, lin F (scal k l) = k * lin F l
  | [] => by simp [scal, lin]
  | q :: l => by
    have ih := lin_scal F k l
    show k * q.2 * F q.1 + lin F (scal k l) = k * (q.2 * F q.1 + lin F l)
    rw [ih, Int.mul_add, Int.mul_assoc]
theorem plusA_lin : ∀ (m l : Mul), NodK l → NodK (plusA l m) ∧ ∀ F, lin F (plusA l m) = lin F l + lin F m := fun m l nd => acc_go m l nd
theorem putsG_lin (g : Wo) : ∀ (l : Mul) (s : Int × Mul), NodK s.2 → NodK (l.foldl (putG g) s).2 ∧ (l.foldl (putG g) s).1 = s.1 + lin (fun u => (worthOf g u).1) l ∧ ∀ F, lin F (l.foldl (putG g) s).2 = lin F s.2 + lin (subF g F) l
  | [], s, nd => ⟨nd, by simp [lin], fun F => by simp [lin]⟩
  | q :: l, s, nd => by
    rw [List.foldl_cons]
    obtain ⟨n1, e1⟩ := plusA_lin (scal q.2 (worthOf g q.1).2) s.2 nd
    obtain ⟨h1, h2, h3⟩ := putsG_lin g l (putG g s q) n1
    refine ⟨h1, ?_, fun F => ?_⟩
    · rw [h2]
      show s.1 + q.2 * (worthOf g q.1).1 + _ = s.1 + (q.2 * (worthOf g q.1).1 + _)
      omega
    · rw [h3 F]
      show lin F (plusA s.2 (scal q.2 (worthOf g q.1).2)) + _ = lin F s.2 + (q.2 * subF g F q.1 + _)
      rw [e1 F, lin_scal]
      unfold subF
      omega
theorem form_nod {l : Mul} (nd : NodK l) : NodK (form l) := by
  unfold NodK form
  rw [List.map_map]
  have e : (((keysN l).mergeSort le2).map ((fun x => x.1) ∘ fun u => (u, getI l u))) = (keysN l).mergeSort le2 := by
    conv => rhs; rw [← List.map_id ((keysN l).mergeSort le2)]
    rfl
  rw [e]
  exact (List.mergeSort_perm _ _).nodup_iff.mpr (keysN_nod nd)
theorem acc_nod (l : Mul) : NodK (accAll l) := (acc_go l [] List.nodup_nil).1
theorem putL_lin (g : Wo) : ∀ (l : Mul) (s : Int × Mul), NodK s.2 → NodK (l.foldl (putL g) s).2 ∧ (l.foldl (putL g) s).1 = s.1 + lin (fun u => (worthOf g u).1) l ∧ ∀ F, lin F (l.foldl (putL g) s).2 = lin F s.2 + lin (subF g F) l
  | [], s, nd => ⟨nd, by simp [lin], fun F => by simp [lin]⟩
  | q :: l, s, nd => by
    rw [List.foldl_cons]
    obtain ⟨h1, h2, h3⟩ := putL_lin g l (putL g s q) (form_nod (acc_nod _))
    refine ⟨h1, ?_, fun F => ?_⟩
    · rw [h2]
      show s.1 + q.2 * (worthOf g q.1).1 + _ = s.1 + (q.2 * (worthOf g q.1).1 + _)
      omega
    · rw [h3 F]
      show lin F (form (accAll (s.2 ++ scal q.2 (worthOf g q.1).2))) + _ = lin F s.2 + (q.2 * subF g F q.1 + _)
      rw [acc_lin, lin_app, lin_scal]
      unfold subF
      omega
/-- a form is its own form -/
theorem form_form {l : Mul} (nd : NodK l) (nm : ∀ u ∈ l.map (·.1), NmU u) : form (form l) = form l :=
  form_eq (form_nod nd) nd (form_nm nm) fun u => by rw [getI_lin (form_nod nd), getI_lin nd, lin_form nd]
theorem putL_form {g : Wo} {ps : Mul} (h : Puts g ps) : ∀ (l : Mul) (s : Int × Mul), (∀ q ∈ l, q ∈ ps) → (∀ u ∈ s.2.map (·.1), NmU u) → form s.2 = s.2 → form (l.foldl (putL g) s).2 = (l.foldl (putL g) s).2
  | [], s, _, _, e => e
  | q :: l, s, hl, hs, e => by
    rw [List.foldl_cons]
    have nq : ∀ u ∈ (s.2 ++ scal q.2 (worthOf g q.1).2).map (·.1), NmU u := fun u hu => by
      rw [List.map_append, scal_keys] at hu
      rcases List.mem_append.mp hu with z | z
      · exact hs u z
      · exact (h.w (h.nm q.1 (List.mem_map.mpr ⟨q, hl q (List.mem_cons_self ..), rfl⟩))).2.1 u z
    exact putL_form h l _ (fun x hx => hl x (List.mem_cons_of_mem _ hx)) (form_nm (accA_nm nq)) (form_form (acc_nod _) (accA_nm nq))
theorem put_one {g : Wo} {ps : Mul} {n : Int} (h : Puts g ps) : (putsG g n ps).1 = (ps.foldl (putL g) (n, [])).1 ∧ form (putsG g n ps).2 = (ps.foldl (putL g) (n, [])).2 := by
  have n0 : NodK ((n, []) : Int × Mul).2 := List.nodup_nil
  obtain ⟨a1, a2, a3⟩ := putsG_lin g ps (n, []) n0
  obtain ⟨b1, b2, b3⟩ := putL_lin g ps (n, []) n0
  refine ⟨?_, ?_⟩
  · unfold putsG
    rw [a2, b2]
  · rw [← putL_form h ps (n, []) (fun q hq => hq) (fun u hu => by simp at hu) (by simp [form, keysN])]
    refine form_eq a1 b1 (putsG_nm h _ _ (fun q hq => hq) (fun u hu => by simp at hu)) fun u => ?_
    unfold putsG
    rw [getI_lin a1, getI_lin b1, a3, b3]
end DR

namespace DR
open PySem PySem.Spec PyProof.Rows L2
/-! ### _law_put, run -/
def spPut (K : PySem.W.Frag) : Sp := fun vs H Q _ => ∃ (v : V) (n : Int) (ps : Mul) (d : Addr) (kvs : List (List Key × V)) (g : Wo), vs = [v, .ref d] ∧ SumT H v n ps ∧ H d = some (.dT kvs) ∧ WorthsV H kvs g ∧ Puts g ps ∧ ps.length ≤ 7 ∧
  ∀ v' H', Same H H' → SumT H' v' (ps.foldl (putL g) (n, [])).1 (ps.foldl (putL g) (n, [])).2 → Q v' H'
abbrev sPut : Stmt := topS 41
theorem scPut : FnScope ["one", "worths", "found", "unknown", "many"] ["one", "worths"] (defScope sPut) := ⟨rfl, rfl, rfl, by decide +kernel, rfl, by decide +kernel, by decide +kernel⟩
section
variable {P : Program} {w : World} {K : PySem.W.Frag} {mg : Str → Option Value} {base : Heap}
theorem ok_put {f : Addr} {fd : FuncData} (F : Fun K "_law_put" "_law_put" sPut f fd) (G : Has P w K mg base CX0 5 "_law_added" ["one", "other", "many"] (spAdded K)) : FnOk P w K mg base CX0 6 f fd ["one", "worths"] (spPut K) := by
  refine F.ok scPut (fun vs H Q E h => ?_) (fun cdv A outer s H vs Q E hr h => ?_)
  · obtain ⟨v, n, ps, d, kvs, g, rfl, _⟩ := h
    rfl
  · obtain ⟨v, n, ps, d, kvs, g, rfl, ⟨a, b, xs, rfl, ha, hb, hxs⟩, hd, hw, pu, few, q⟩ := h
    have hu := hu_of hr
    refine ⟨_, (pss_cons (ps_set (i := 2) scPut.nd rfl (.inl rfl) (pe_tup (pa_cons (pe_ix ix_tup (pv 0) pe_int (fun _ _ => rfl)) (pa_cons (pe_tup pa_nil) pa_nil))))
      (pss_cons (ps_for PassesOwn.never rfl (pi_tup (pe_ix ix_tup (pv 0) pe_int (fun _ _ => rfl))) (pg_tup rfl (pgs_cons (pg_name (i := 3) scPut.nd rfl (.inl rfl)) (pgs_cons (pg_name (i := 4) scPut.nd rfl (.inl rfl)) pgs_nil)))
        (pss_one (ps_set (i := 2) scPut.nd rfl (.inl rfl) (pe_callH G hr (by rfl) pass0 (pa_cons (pv 2) (pa_cons (pe_ifExp (pt_cmp (pc_din hu (pv 3) (pv 1)) (by rfl)) (pe_dget hu (pv 1) (pv 3) (fun _ _ => rfl)) (pe_tup (pa_cons pe_int (pa_cons (pe_tup (pa_cons (pe_tup (pa_cons (pv 3) (pa_cons pe_int pa_nil))) pa_nil)) pa_nil)))) (pa_cons (pv 4) pa_nil)))))))
      (pss_one (ps_ret (pv 2))))), ?_⟩
    have lx : xs.length = ps.length := hxs.length
    refine ⟨_, rfl, a, _, _, _, rfl, rfl, SqT.of ha, at_of (i := 0) rfl, (by show 0 ≤ sizeLine; decide), fun t0 n0 => ⟨sz2, fun t1 n1 => ?_⟩⟩
    have s0 := same_new (o := .tup []) n0
    have s1 := same_new (o := .tup [V.int n, V.ref t0]) n1
    have S := s0.trans s1
    have z0 : SumT (upd (upd H t0 (.tup [])) t1 (.tup [V.int n, V.ref t0])) (.ref t1) n [] := ⟨t1, t0, [], rfl, upd_same, s1 _ _ upd_same, .nil⟩
    generalize upd (upd H t0 (.tup [])) t1 (.tup [V.int n, V.ref t0]) = H1 at S z0 ⊢
    refine ⟨_, rfl, a, _, _, _, rfl, rfl, SqT.of (S _ _ ha), at_of (i := 1) rfl, b, rfl, ⟨_, SqT.of (S _ _ hb)⟩, ?_⟩
    refine for_it walk_tup (fun i σ H4 => ∃ (v2 : V) (w1 w2 : Option V), σ = [some (.ref a), some (.ref d), some v2, w1, w2] ∧ Same H H4 ∧ SumT H4 v2 ((ps.take i).foldl (putL g) (n, [])).1 ((ps.take i).foldl (putL g) (n, [])).2)
      ⟨.ref t1, none, none, rfl, S, z0⟩ (fun i σ H4 _ ⟨_, _, _, _, s4, _⟩ => SqT.of (s4 _ _ hb)) ?_ ?_
    · rintro i x σ H4 H4' hi ⟨v2, w1, w2, rfl, s4, h2⟩ ⟨rfl, hx⟩
      obtain ⟨u, m, c, e, hum, rfl, hc, he⟩ := part_get hxs hx
      have hc4 := s4 _ _ hc
      have he4 := s4 _ _ he
      have hmem := List.mem_of_getElem? hum
      have hi2 : i < ps.length := (List.getElem?_eq_some_iff.mp hum).1
      have un := pu.nm u (List.mem_map.mpr ⟨_, hmem, rfl⟩)
      obtain ⟨wl, wnm, wsz, wsq⟩ := pu.w un
      have al : ((ps.take i).foldl (putL g) (n, [])).2.length ≤ 25 * i := by
        refine Nat.le_trans (putL_len pu _ _ fun x hx => List.mem_of_mem_take hx) ?_
        rw [List.length_take]
        show 0 + _ ≤ _
        have : min i ps.length ≤ i := Nat.min_le_left _ _
        omega
      have anm := putL_nm pu (ps.take i) (n, []) (fun x hx => List.mem_of_mem_take hx) (fun u hu => by simp at hu)
      have step : (ps.take (i + 1)).foldl (putL g) (n, []) = putL g ((ps.take i).foldl (putL g) (n, [])) (u, m) := by
        rw [List.take_add_one, hum, List.foldl_append]
        rfl
      refine ⟨c, _, rfl, SqT.of hc4, rfl, _, _, rfl, _, _, rfl, rfl, ?_⟩
      have fin : ∀ (y : V) (H5 : Hp), Same H4' H5 → SumT H5 y (worthOf g u).1 (worthOf g u).2 → spAdded K [v2, y, .int m] H5 (fun v' H6 => ∃ (v3 : V) (w1 w2 : Option V), [some (V.ref a), some (V.ref d), some v', some (V.ref e), some (V.int m)] = [some (V.ref a), some (V.ref d), some v3, w1, w2] ∧ Same H H6 ∧ SumT H6 v3 ((ps.take (i + 1)).foldl (putL g) (n, [])).1 ((ps.take (i + 1)).foldl (putL g) (n, [])).2) E0 := fun y H5 s5 hy => by
        refine ⟨v2, y, _, _, m, _, _, rfl, sumT_s (TupS.of s5) h2, hy, ⟨anm, wnm, by omega, by omega, pu.sz _ hmem, wsz, wsq⟩, fun v' H6 s6 h6 => ⟨v', _, _, rfl, (s4.trans s5).trans s6, ?_⟩⟩
        rw [step]
        exact h6
      refine ⟨_, rfl, _, rfl, _, rfl, d, valV kvs u, rfl, DGet.t (s4 _ _ hd) he4, _, rfl, ?_⟩
      have hwu := hw u
      cases eo : valV kvs u with
      | some y =>
        rw [eo] at hwu
        obtain ⟨wn, wps, hg, hy⟩ := hwu
        refine iteT ⟨_, rfl, _, rfl, d, y, rfl, eo ▸ DGet.t (s4 _ _ hd) he4, _, rfl, fin y H4' (Same.refl _) ?_⟩
        unfold worthOf
        rw [hg]
        exact sumT_s (TupS.of s4) hy
      | none =>
        rw [eo] at hwu
        refine iteF ⟨_, rfl, sz2, fun p1 h1 => ⟨(by show 1 ≤ sizeLine; decide), fun p2 h2 => ⟨sz2, fun p3 h3 => ?_⟩⟩⟩
        have t1 := same_new (o := .tup [V.ref e, V.int 1]) h1
        have t2 := same_new (o := .tup [V.ref p1]) h2
        have t3 := same_new (o := .tup [V.int 0, V.ref p2]) h3
        have t := (t1.trans t2).trans t3
        refine ⟨_, rfl, fin (.ref p3) _ t ?_⟩
        have eg : worthOf g u = (0, [(u, 1)]) := by
          unfold worthOf
          rw [show g u = none from hwu]
          rfl
        rw [eg]
        exact ⟨p3, p2, [.ref p1], rfl, upd_same, t3 _ _ upd_same, .cons ⟨p1, e, rfl, t3 _ _ (t2 _ _ upd_same), t _ _ he4⟩ .nil⟩
    · rintro σ H4 ⟨v2, w1, w2, rfl, s4, h2⟩
      rw [lx, List.take_length] at h2
      exact ⟨_, rfl, q v2 H4 s4 h2⟩
end
end DR

namespace DR
open PySem PySem.Spec PyProof.Rows L2
/-! ### try with several clauses that name the error -/
abbrev Suite := Addr → Value → Option Addr → TS
def wAll (K : PySem.W.Frag) (out : WX) (D : Ends) : List (Value × Nat × Suite) → WX
  | [] => out
  | (c, i, ts) :: more => fun cls d σ H => ∃ yes, PySem.W.exmOne K cls c = some yes ∧
      (yes = true → ∀ e, H e = none → ts e cls d ⟨fun σ1 H1 => D.nx (σ1.set i none) H1, D.rt, fun σ1 H1 => D.bk (σ1.set i none) H1, fun σ1 H1 => D.ct (σ1.set i none) H1⟩ (σ.set i (some (.ref e))) H) ∧ (yes = false → wAll K out D more cls d σ H)
inductive Clauses (X : Cx) : List ExceptHandler → List (Value × Nat × Suite) → Prop
  | none : Clauses X [] []
  | more {x nm : Str} {c : Value} {i : Nat} {ts : Suite} {st : Stmt} {sts : List Stmt} {q1 q2 : Pos} {hds : List ExceptHandler} {l : List (Value × Nat × Suite)} (hi : X.N[i]? = some nm) (hl : X.env.kindOf nm = some .local) (hc : Names X x c)
      (hs : ∀ (e : Addr) (oe : Obj) (cls : Value) (d : Option Addr) (pn : List (Addr × Obj)), Zc cls d oe → (∃ fs, oe.data = .fields fs) → PSs (X.suite e ((e, oe) :: pn)) (st :: sts) (ts e cls d)) (rest : Clauses X hds l) :
      Clauses X (.ExceptHandler (some (.Name x q1)) (some nm) (st :: sts) q2 :: hds) ((c, i, ts) :: l)
theorem ps_tryN {X : Cx} {body : List Stmt} {h0 : ExceptHandler} {hds : List ExceptHandler} {l : List (Value × Nat × Suite)} {pos : Pos} {tb : WX → TS} {out : WX} (e1 : X.stack = X.env :: X.outer) (e2 : X.env.frame = some X.env.locals) (nd : X.N.Nodup) (tk : Takes X out)
    (hb : ∀ (W : WX) (pn : List (Addr × Obj)) (xe : Value → Shared → Prop), Takes (X.tr pn xe) W → PassesOwn (model X.prog X.w) X.A X.env xe → PSs (X.tr pn xe) body (tb W))
    (hh : Clauses X (h0 :: hds) l) : PS X (.Try body (h0 :: hds) [] [] pos) (fun D σ H => tb (wAll X.K out D l) D σ H) := by
  constructor
  intro pins s σ H D I h
  have okX := I.ok
  have fr : X.A.frames = some (X.env :: X.outer) := okX.frames.trans (by rw [e1])
  refine wpAny_Try_except (wpAny_mono ((hb (wAll X.K out D l) (X.pn ++ pins) (fun ev s₁ => wpAny (model X.prog X.w) X.A (noteFrame ev X.env) (fun _ s₂ => wpAny (model X.prog X.w) X.A (setFlight ev none) (fun _ s₃ =>
      wpAny (model X.prog X.w) X.A (handleBy ev X.env (h0 :: hds)) (SP X pins D) X.xe s₃) X.xe s₂) X.xe s₁) ?caught PassesOwn.looking).run [] s σ H D (I.toTry _) h) ?through fun _ _ z => z)
  case through =>
    intro fl s1 hsp
    cases fl with
    | next => exact let ⟨σ1, H1, J, q⟩ := hsp; wpAny_execs_nil ⟨σ1, H1, J.ofTry okX, q⟩
    | brk => exact let ⟨σ1, H1, J, q⟩ := hsp; ⟨σ1, H1, J.ofTry okX, q⟩
    | cont => exact let ⟨σ1, H1, J, q⟩ := hsp; ⟨σ1, H1, J.ofTry okX, q⟩
    | ret u => exact let ⟨v, σ1, H1, J, r, q⟩ := hsp; ⟨v, σ1, H1, J.ofTry okX, r, q⟩
  case caught =>
    intro u s1 flying
    obtain ⟨a, B, sI, pins1, σ1, H1, cls, d, rfl, J0, nb, up, sky, na, os, ag, wish⟩ := flying
    have J : Inv X pins σ1 H1 sI := J0.ofTry okX
    refine Sky.land (A := X.A) (env := X.env) (outer := X.outer) (L := X.env.locals) Zc.steady fr e2 (by rw [← e1]; exact sky) fun h3 fl3 up3 => ?_
    have J3 : Inv X pins σ1 H1 { s1 with heap := h3 } := J.landed nb fl3.1 (up.trans up3) os ag
    obtain ⟨o3, w3, g3, z3, d3⟩ := fl3.there
    have out_of : a ∉ frs (X.env :: X.outer) := fun hm => by
      obtain ⟨_, ob, g, notf⟩ := fl3.2.2.1.mem hm
      have same : o3 = ob := Option.some.inj (g3.symm.trans g)
      rw [same] at d3
      exact notf _ d3
    have nL : a ≠ X.env.locals := fun z => out_of (List.mem_filterMap.mpr ⟨X.env, .head _, e2.trans (by rw [z])⟩)
    have nF : a ∉ X.fs := fun hm => let ⟨e, he, q⟩ := List.mem_filterMap.mp hm; out_of (List.mem_filterMap.mpr ⟨e, .tail _ he, q⟩)
    have S3 := J3.suite g3 d3 na nL nF
    have each : ∀ {hs' : List ExceptHandler} {l' : List (Value × Nat × Suite)}, Clauses X hs' l' → wAll X.K out D l' cls d σ1 H1 → wpAny (model X.prog X.w) X.A (handleBy (.ref a) X.env hs') (SP X pins D) X.xe { s1 with heap := h3 } := by
      intro hs' l' C
      induction C with
      | none =>
        intro wo
        obtain ⟨k1, k2, k3, oe, vs, TB, oT, ts', he, hz, hd, ht, hr⟩ := id fl3
        have thrown : wpAny (model X.prog X.w) X.A (setFlight (.ref a) X.env.frame) (fun _ s4 => wpAny (model X.prog X.w) X.A (throw (.ref a) : Sem Flow) (SP X pins D) X.xe s4) X.xe { s1 with heap := h3 } := by
          rw [e2]
          refine HandSPX.setFlight_upZ fl3 fun h4 held up4 => wpAny_throw (tk _ _ ⟨a, B, sI, pins, σ1, H1, cls, d, rfl, J, nb, (up.trans up3).trans up4, .inr (.inr ?_), na, os, ag, wo⟩)
          rw [e1]
          exact held
        refine wpAny_handleBy_nil ?_
        unfold PySem.passOn
        refine wpAny_bind (wpAny_field he hd ht ?_)
        rw [if_neg (by simp : ¬ ((Value.ref TB == Value.none) = true))]
        first | exact wpAny_bind (wpAny_pure (wpAny_bind thrown)) | exact wpAny_bind thrown
      | @more x nm c i ts st sts q1 q2 hds2 l2 hi hl hc hs rest ih =>
        intro wo
        obtain ⟨yes, hy, on, off⟩ := wo
        have LM := PySem.W.exm_one (M := model X.prog X.w) J3.kIn (fun A Q E s k q => wpAny_typeOf_ref (k _ _ g3) (by rw [z3.1]; exact q)) hy
        have named : ∀ {Q : Value → Shared → Prop} {E : Value → Shared → Prop}, Q c { s1 with heap := h3 } → wpAny (model X.prog X.w) (X.A.mark (some (.ref a))) (eval (.Name x q1) X.env) Q E { s1 with heap := h3 } := fun {Q E} q => by
          obtain ⟨gl, dbg, m1 | ⟨m1, m2, m3⟩⟩ := hc
          · exact ld_glob (X := X.suite a ((a, o3) :: (X.pn ++ pins))) S3 gl m1 q dbg
          · exact ld_blt (X := X.suite a ((a, o3) :: (X.pn ++ pins))) S3 gl m1 m2 q m3 dbg
        refine wpAny_handleBy_cons (codeAny_handlers_test (named (LM.here ?_))) (by intro q; cases q)
        cases yes with
        | false => exact ih (off rfl)
        | true =>
          refine codeAny_handlers_suite_as (HandSPX.lands_againZ fl3 fun h4 fl4 up4 => ?_)
          obtain ⟨o4, w4, g4, z4, d4⟩ := fl4.there
          have J4 : Inv X pins σ1 H1 { s1 with heap := h4 } := J.landed nb fl4.1 ((up.trans up3).trans up4) os ag
          refine store_ok (X := X.suite a ((a, o4) :: (X.pn ++ pins))) (v := .ref a) (J4.suite g4 d4 na nL nF) nd hi (.inl hl) rfl (fun s5 S5 => ?_) (.inr hl)
          refine wpAny_mono ((hs a o4 cls d (X.pn ++ pins) z4 ⟨_, d4⟩).run [] s5 _ H1 _ S5 (on rfl a na)) (fun fl s6 hsp => ?_) fun _ _ z => z.elim
          have gone : ∀ {σ6 : L2.St} {H6 : Hp} {Q : Shared → Prop}, Inv (X.suite a ((a, o4) :: (X.pn ++ pins))) [] σ6 H6 s6 → (∀ s7, Inv X pins (σ6.set i Option.none) H6 s7 → Q s7) →
              wpAny (model X.prog X.w) X.A (do bindName X.env nm .none; unbindBehindTheSuite X.env nm q2) (fun _ s7 => Q s7) X.xe s6 := fun S6 k => gone_ok (S6.unsuite okX) nd hi hl k
          cases fl with
          | next => exact let ⟨_, _, S6, q6⟩ := hsp; gone S6 fun s7 J7 => ⟨_, _, J7, q6⟩
          | brk => exact let ⟨_, _, S6, q6⟩ := hsp; gone S6 fun s7 J7 => ⟨_, _, J7, q6⟩
          | cont => exact let ⟨_, _, S6, q6⟩ := hsp; gone S6 fun s7 J7 => ⟨_, _, J7, q6⟩
          | ret u => exact let ⟨_, _, _, S6, r6, q6⟩ := hsp; gone S6 fun s7 J7 => ⟨_, _, _, J7, r6, q6⟩
    exact each hh wish
/-! ### _law_met -/
abbrev sMet : Stmt := topS 40
theorem scMet : FnScope ["ask", "e"] ["ask"] (defScope sMet) := ⟨rfl, rfl, rfl, by decide +kernel, rfl, by decide +kernel, by decide +kernel⟩
/-- what an error of the class at C with the field f comes to -/
def CaughtAs (C : Addr) (f told : Str) (Q : VK) (cls : Value) (d : Option Addr) (H : Hp) : Prop := ∃ (dd : Addr) (v : V), cls = .ref C ∧ d = some dd ∧ H dd = some (.xd [(f, v)]) ∧ ∀ p, H p = none → Q (.ref p) (upd H p (.tup [.str told, v]))
def MetE (CN CC CT : Addr) (Q : VK) : XK := fun cls d H => CaughtAs CN "thing" "sum" Q cls d H ∨ CaughtAs CC "number" "number" Q cls d H ∨ CaughtAs CT "key" "worths" Q cls d H
def TMet (CN CC CT : Addr) : (XK → Hp → VK → Prop) → Hp → VK → Prop := fun tl H Q => tl (MetE CN CC CT Q) H fun v H1 => 2 ≤ sizeLine ∧ ∀ p, H1 p = none → Q (.ref p) (upd H1 p (.tup [.str "told", v]))
theorem takes_len {X : Cx} {W W' : WX} (tk : Takes X W) (h : ∀ cls d σ H, σ.length = X.N.length → W' cls d σ H → W cls d σ H) : Takes X W' := fun u s' x => by
  obtain ⟨a, B, sI, pins, σ, H, cls, d, e, I, r1, r2, r3, r4, r5, r6, w⟩ := x
  exact tk u s' ⟨a, B, sI, pins, σ, H, cls, d, e, I, r1, r2, r3, r4, r5, r6, h cls d σ H I.len w⟩
theorem set_one {σ : L2.St} {v : V} (h : σ.length = 2) : (σ.set 1 (some v))[1]? = some (some v) := by
  rw [List.getElem?_set_self (by omega)]
/-- such an error's class -/
structure ErC (K : PySem.W.Frag) (C : Addr) (f : Str) : Prop where
  tF : PySem.W.exmOne K (.ref C) (.ref C) = some true
  xF : XfC K C
  nF : PySem.W.findIn K (.ref C) f = some none
structure Err3 (K : PySem.W.Frag) (mg : Str → Option Value) (CN CC CT : Addr) : Prop where
  mN : mg "BadSum" = some (.ref CN)
  mC : mg "BadNumber" = some (.ref CC)
  mT : mg "BadWorths" = some (.ref CT)
  eN : ErC K CN "thing"
  eC : ErC K CC "number"
  eT : ErC K CT "key"
  oCN : PySem.W.exmOne K (.ref CC) (.ref CN) = some false
  oTN : PySem.W.exmOne K (.ref CT) (.ref CN) = some false
  oTC : PySem.W.exmOne K (.ref CT) (.ref CC) = some false
theorem met_gives {X : Cx} {g CN CC CT : Addr} {cdg : Value} {q : Str} (M : Err3 X.K X.mg CN CC CT) :
    LamX.GivesTo X ["ask", "e"] "_law_met" (defScope sMet) g cdg (defBody sMet) "ask" q (TMet CN CC CT) := by
  intro f c' s H Q tl act hc h
  refine ⟨_, pss_one (ps_tryN (X := (cxOf CX0 X.prog X.w X.K X.mg X.base ["ask", "e"] "_law_met" (defScope sMet) g cdg X.A X.stack s H E0).nox) (out := fun _ _ _ _ => False)
      (tb := fun W D σ H => ∃ Ech : XK, (∀ cls d σ' H', σ'.length = 2 → Ech cls d H' → W cls d σ' H') ∧ σ[0]? = some (some (.ref f)) ∧ H c' = some (LamX.CodeO c' q) ∧ tl Ech H fun v H1 => 2 ≤ sizeLine ∧ ∀ p, H1 p = none → D.rt (.ref p) (upd H1 p (.tup [.str "told", v])))
      rfl rfl scMet.nd LamX.takes0 (fun W pn xe tk _ => ?_)
      (.more (i := 1) (c := .ref CN) rfl rfl ⟨rfl, by decide, .inl M.mN⟩ (fun e oe cls d pn hz hf => pss_one (ps_ret (pe_tup (pa_cons pe_str (pa_cons (by exact pe_xf M.eN.xF M.eN.nF hz hf (pv 1)) pa_nil)))))
        (.more (i := 1) (c := .ref CC) rfl rfl ⟨rfl, by decide, .inl M.mC⟩ (fun e oe cls d pn hz hf => pss_one (ps_ret (pe_tup (pa_cons pe_str (pa_cons (by exact pe_xf M.eC.xF M.eC.nF hz hf (pv 1)) pa_nil)))))
          (.more (i := 1) (c := .ref CT) rfl rfl ⟨rfl, by decide, .inl M.mT⟩ (fun e oe cls d pn hz hf => pss_one (ps_ret (pe_tup (pa_cons pe_str (pa_cons (by exact pe_xf M.eT.xF M.eT.nF hz hf (pv 1)) pa_nil))))) .none)))), ?_⟩
  · refine ⟨fun pins s' σ H' D I h' => ?_⟩
    obtain ⟨Ech, hW, h1, h2, h3⟩ := h'
    exact (pss_one (ps_ret (pe_tup (pa_cons pe_str (pa_cons (act (fun cls d _ H => Ech cls d H) pn xe Ech _ _ (takes_len tk fun cls d σ H hl h => hW cls d σ H hl h) (fun _ _ _ _ h => h)) pa_nil))))).run pins s' σ H' D I ⟨h1, h2, h3⟩
  · refine ⟨MetE CN CC CT Q, fun cls d σ' H' hl hm => ?_, rfl, hc, h⟩
    rcases hm with hm | hm | hm
    · obtain ⟨dd, v, rfl, rfl, hd, k⟩ := hm
      refine ⟨true, M.eN.tF, fun _ e he => ?_, fun z => Bool.noConfusion z⟩
      exact ⟨_, set_one hl, rfl, rfl, dd, _, v, rfl, hd, by simp [List.lookup], (by show 2 ≤ sizeLine; decide), k⟩
    · obtain ⟨dd, v, rfl, rfl, hd, k⟩ := hm
      refine ⟨false, M.oCN, fun z => Bool.noConfusion z, fun _ => ⟨true, M.eC.tF, fun _ e he => ?_, fun z => Bool.noConfusion z⟩⟩
      exact ⟨_, set_one hl, rfl, rfl, dd, _, v, rfl, hd, by simp [List.lookup], (by show 2 ≤ sizeLine; decide), k⟩
    · obtain ⟨dd, v, rfl, rfl, hd, k⟩ := hm
      refine ⟨false, M.oTN, fun z => Bool.noConfusion z, fun _ => ⟨false, M.oTC, fun z => Bool.noConfusion z, fun _ => ⟨true, M.eT.tF, fun _ e he => ?_, fun z => Bool.noConfusion z⟩⟩⟩
      exact ⟨_, set_one hl, rfl, rfl, dd, _, v, rfl, hd, by simp [List.lookup], (by show 2 ≤ sizeLine; decide), k⟩
/-- a def whose code object is known to stand at c -/
structure FunC (K : PySem.W.Frag) (x : Str) (st : Stmt) (c f : Addr) (fd : FuncData) : Prop where
  ex : ∃ (oc : Value) (od : Option Addr) (kV doc pm : Value) (an : Option Addr) (ct : Value) (osl : Array (Option Value)),
    fd = PySem.W.fnOf x x (defArgs st) (defBody st) (defScope st) .none kV doc pm an (.ref c) ct ∧ K.lookup f = some ⟨oc, od, .func fd, osl⟩ ∧ PySem.W.codeIn K (.ref c) x = true
  kp : PySem.W.keepIn K (.ref f) = true
theorem FunC.fn {K : PySem.W.Frag} {x : Str} {st : Stmt} {c f : Addr} {fd : FuncData} (F : FunC K x st c f fd) : Fun K x x st f fd := by
  obtain ⟨oc, od, kV, doc, pm, an, ct, osl, e, lk, hc⟩ := F.ex
  exact ⟨⟨oc, od, kV, doc, pm, an, _, ct, osl, e, lk, hc⟩, F.kp⟩
theorem FunC.okX {P : Program} {w : World} {K : PySem.W.Frag} {mg : Str → Option Value} {base : Heap} {x : Str} {st : Stmt} {c f : Addr} {fd : FuncData} {N ps : List Str} {k : Nat} {sp : Sp} (F : FunC K x st c f fd) (S : FnScope N ps (defScope st)) (len : ∀ vs H Q E, sp vs H Q E → vs.length = ps.length)
    (hbody : ∀ (A : Around) (outer : List Env) (s : Shared) (H : Hp) (vs : List V) (Q : VK) (E : XK), Room k (A.deeper (envOfC x (defScope st) s.heap.objs.size f (.ref c))) → sp vs H Q E →
      ∃ t, PSs (cxOf (L2.CX P w) P w K mg base N x (defScope st) f (.ref c) A outer s H E) (defBody st) t ∧ t { nx := fun _ H' => Q .non H', rt := Q } (start N vs) H) : FnOk P w K mg base (L2.CX P w) (k + 1) f fd ps sp := by
  obtain ⟨oc, od, kV, doc, pm, an, ct, osl, rfl, lk, hcd⟩ := F.ex
  exact fn_of lk hcd S len fun A outer s H vs Q E hr hsp => hbody A outer s H vs Q E hr hsp
/-- what is known of _law_met and the errors -/
structure Met (K : PySem.W.Frag) (mg : Str → Option Value) (CN CC CT : Addr) : Prop where
  ex : ∃ (g : Addr) (fd : FuncData), mg "_law_met" = some (.ref g) ∧ Fun K "_law_met" "_law_met" sMet g fd
  e3 : Err3 K mg CN CC CT
theorem pe_met {X : Cx} {T : List (Addr × Str)} {CN CC CT c P : Addr} {k : Nat} {params : Arguments} {body : Expr} {scope : Scope} {t : XK → TE} {p lpos pos : Pos} (M : Met X.K X.mg CN CC CT) (hg : Gl X "_law_met")
    (TB : LamX.TabB X.base X.mg c P) (hcode : X.env.code = .ref c) (hmT : (P, X.env.qual ++ "<lambda>") ∈ T) (hu : ∀ p ∈ T, p.1 = P → p.2 = X.env.qual ++ "<lambda>") (hr : Room (k + 2) X.A) (L : LamX.LamS X.env.scope scope) (hdef : defaultsOf params X.env = ([], []))
    (hbind : ∀ (q : Str) (cl : List (Str × Addr)) (pm cv ctv : Value), bindArgs (PySem.W.kla_fn "<lambda>" q params body scope cl pm cv ctv) ⟨[], []⟩ = pure [])
    (hbody : ∀ (A : Around) (outer : List Env) (s : Shared) (H : Hp) (E : XK) (f c' : Addr), Room k (A.deeper (LamX.lamEnv X scope s.heap.objs.size f c')) → PE (LamX.lamCx X A outer s H E scope f c') body (t E)) :
    PE X (.Call (.Name "_law_met" p) [.Lambda params body scope lpos] [] pos) (LamX.tLam T (TMet CN CC CT) t) := by
  obtain ⟨g, fd, hm, F⟩ := M.ex
  have hb := F.binds (ps := ["ask"]) fun _ _ _ _ _ _ us hl => match us, hl with | [_], _ => rfl
  obtain ⟨oc, od, kV, doc, pm, an, cdv, ct, osl, rfl, lk, hcd⟩ := F.ex
  exact LamX.pe_lamcall hg hm F.kp lk hcd hb scMet rfl (.inl rfl) (met_gives M.e3) TB hcode hmT hu hr L hdef hbind hbody
theorem sqL_ext {K : PySem.W.Frag} {H H' : Hp} {a : Addr} {xs : List V} (e : LamX.ExtN H H') (h : SqL K H a xs) : SqL K H' a xs :=
  h.imp (fun h => h.imp (fun h => e _ _ h (by intro x z; cases z)) (fun ⟨o, h⟩ => ⟨o, e _ _ h (by intro x z; cases z)⟩)) id
theorem sqT_ext {K : PySem.W.Frag} {H H' : Hp} {a : Addr} {xs : List V} (e : LamX.ExtN H H') (h : SqT K H a xs) : SqT K H' a xs :=
  h.imp (fun h => h.imp (fun h => e _ _ h (by intro x z; cases z)) (fun ⟨o, h⟩ => ⟨o, e _ _ h (by intro x z; cases z)⟩)) id
end DR

namespace DR
open PySem PySem.Spec PyProof.Rows L2
/-! ### dict(xs) of a list of pairs whose keys are tuples -/
def PairD (K : PySem.W.Frag) (H : Hp) (p : Addr) (kv : List Key × V) : Prop := ∃ b, SqT K H p [.ref b, kv.2] ∧ H b = some (.tup (kv.1.map kV))
def rDictT (K : PySem.W.Frag) : List V → Hp → VK → Prop := fun xs H Q => ∃ (a : Addr) (ps : List Addr) (kvs : List (List Key × V)), xs = [.ref a] ∧ SqL K H a (ps.map V.ref) ∧ Paired (PairD K H) ps kvs ∧ (kvs.map (·.1)).Nodup ∧
  ∀ p, H p = none → Q (.ref p) (upd H p (.dT kvs))
section
variable {X : Cx} {pins : List (Addr × Obj)} {σ : L2.St} {H : Hp} {s : Shared}
theorem pairsT_of (I : Inv X pins σ H s) : ∀ {ps : List Addr} {kvs : List (List Key × V)}, Paired (PairD X.K H) ps kvs →
    ∃ xs : List (List Key × Addr × Value), KT H kvs xs ∧ xs.length = ps.length ∧ ∀ (j : Nat) (q : List Key × Addr × Value), xs[j]? = some q → ∃ p, ps[j]? = some p ∧ IsTup s.heap p #[.ref q.2.1, q.2.2] ∧ (tupleKind (mixKind X.prog X.w)).is s.heap q.1 q.2.1
  | _, _, .nil => ⟨[], .nil, rfl, fun j q e => by simp at e⟩
  | _, _, .cons (a := p) (b := kv) h t => by
    obtain ⟨xs, r, hl, hp⟩ := pairsT_of I t
    obtain ⟨b, hs, hb⟩ := h
    obtain ⟨its, rv, ht, _⟩ := I.tuple hs
    obtain ⟨u, y, ei, ru, ry⟩ := vals2 rv
    subst ei
    obtain rfl : u = Value.ref b := ru
    refine ⟨(kv.1, b, y) :: xs, .cons ⟨rfl, hb, ry⟩ r, by rw [List.length_cons, List.length_cons, hl], fun j q e => ?_⟩
    cases j with
    | zero =>
      have e' : (kv.1, b, y) = q := Option.some.inj e
      subst e'
      exact ⟨p, rfl, ht, key_of I.hok hb⟩
    | succ j =>
      obtain ⟨p', e1, e2, e3⟩ := hp j q (by simpa using e)
      exact ⟨p', by simpa using e1, e2, e3⟩
theorem kt_keys {H : Hp} : ∀ {kvs : List (List Key × V)} {xs : List (List Key × Addr × Value)}, KT H kvs xs → xs.map (·.1) = kvs.map (·.1)
  | _, _, .nil => rfl
  | _, _, .cons h t => by
    rw [List.map_cons, List.map_cons, kt_keys t, h.1]
theorem kt_same {H H' : Hp} (e : Same H H') : ∀ {kvs : List (List Key × V)} {xs : List (List Key × Addr × Value)}, KT H kvs xs → KT H' kvs xs
  | _, _, .nil => .nil
  | _, _, .cons h t => .cons ⟨h.1, e _ _ h.2.1, h.2.2⟩ (kt_same e t)
theorem call_dictT {k : Nat} (hr : Room k X.A) (hcalm : X.calm = true) : CallR X (.type "dict") (rDictT X.K) := by
  intro pins s σ H xs us Q I r q
  obtain ⟨a, ps, kvs, ex, hq, hp, nd, q⟩ := q
  subst ex
  obtain ⟨u, eu, rx⟩ := vals1 r
  subst eu
  cases rx
  obtain ⟨its, rv, pl, hz⟩ := I.list hq
  have ei := refs_at rv
  subst ei
  rw [List.length_map] at hz
  obtain ⟨zs, rel, hl, hpr⟩ := pairsT_of I hp
  obtain ⟨o, n, ho, hc, hd, hdat⟩ := pl
  have nz : (zs.map (·.1)).Nodup := by
    rw [kt_keys rel]
    exact nd
  have items : PySem.PairItems s.heap (ps.map Value.ref).toArray (fun j => ps.getD j 0) (zs.map fun z => (Value.ref z.2.1, z.2.2)) := by
    refine ⟨by simp [hl], fun j kk v e => ?_⟩
    rw [List.getElem?_map] at e
    cases ez : zs[j]? with
    | none => rw [ez] at e; cases e
    | some z =>
      rw [ez] at e
      obtain ⟨rfl, rfl⟩ := Prod.mk.inj (Option.some.inj e)
      obtain ⟨p, e1, e2, e3⟩ := hpr j z ez
      have ed : ps.getD j 0 = p := by simp [e1]
      refine ⟨by simp [e1], ?_⟩
      show PairAt s.heap (ps.getD j 0) _ _
      rw [ed]
      obtain ⟨o', g1, g2, n', g3⟩ := e2
      exact .inl ⟨o', g1, g2, n', g3⟩
  refine PySem.call_dict_pairsH (knd := tupleKind (mixKind X.prog X.w)) (ps := zs) (PySem.PairArg.list a (ps.map Value.ref).toArray (fun j => ps.getD j 0) (zs.map fun z => (Value.ref z.2.1, z.2.2))) (I.ok.hd hcalm) ?_ ⟨⟨o, n, ho, hc, hd, hdat⟩, items⟩ ⟨by simp, fun i key v e => ?_⟩ ?_ ?_ fun h' tk hd' k => ?_
  · have hu := hr.units
    show X.A.units + 1 + 1 < cLine
    omega
  · have e' : (zs.map fun z => (Value.ref z.2.1, z.2.2))[i]? = some (key, v) := e
    rw [List.getElem?_map] at e'
    cases ez : zs[i]? with
    | none => rw [ez] at e'; cases e'
    | some z =>
      rw [ez] at e'
      obtain ⟨rfl, rfl⟩ := Prod.mk.inj (Option.some.inj e')
      exact ⟨z.1, z.2.1, rfl, rfl⟩
  · intro h' hk x hx
    obtain ⟨j, hj⟩ := List.mem_iff_getElem?.mp hx
    obtain ⟨p, e1, e2, e3⟩ := hpr j x hj
    refine PySem.tupleKind_stays.stays (fun b o vs n e _ => hk b o (Nat.ne_of_lt (Heap.lt_size e)) (by simp) e) e3
  · rw [List.length_map, hl]
    exact hz
  · rw [PySem.storedAllH_nil_of_nodup zs nz] at hd'
    have hm : (s.heap.objs.size == sysModules) = false := beq_eq_false_iff_ne.mpr (Nat.ne_of_gt I.big)
    have hlen : kvs.length ≤ sizeLine := by
      rw [Paired.length rel, hl]
      exact hz
    obtain ⟨od, es, ep, g1, g2, g3, g4, g5, g6⟩ := hd'
    have new : H s.heap.objs.size = none := I.hok.fresh (Nat.le_refl _)
    exact ⟨.ref s.heap.objs.size, upd H s.heap.objs.size (.dT kvs), I.laid (t' := tk) (fun b o e => k b o (by simp) e) (Nat.le_refl _) (show ObjOk X.prog X.w _ _ _ (.dT kvs) from ⟨hlen, hm, zs, kt_same (same_new new) rel, od, es, ep, g1, g2, g3, g4, g6⟩), rfl, q _ new⟩
end
end DR

namespace DR
open PySem PySem.Spec PyProof.Rows L2
/-! ### the errors' __init__ -/
abbrev sIniS : Stmt := inClass (topS 2) 0
abbrev sIniN : Stmt := inClass (topS 3) 0
abbrev sIniW : Stmt := inClass (topS 4) 0
theorem scIniS : FnScope ["self", "thing"] ["self", "thing"] (defScope sIniS) := ⟨rfl, rfl, rfl, by decide +kernel, rfl, by decide +kernel, by decide +kernel⟩
theorem scIniN : FnScope ["self", "number"] ["self", "number"] (defScope sIniN) := ⟨rfl, rfl, rfl, by decide +kernel, rfl, by decide +kernel, by decide +kernel⟩
theorem scIniW : FnScope ["self", "key"] ["self", "key"] (defScope sIniW) := ⟨rfl, rfl, rfl, by decide +kernel, rfl, by decide +kernel, by decide +kernel⟩
section
variable {P : Program} {w : World} {K : PySem.W.Frag} {mg : Str → Option Value} {base : Heap}
theorem ok_iniS {f C : Addr} {fd : FuncData} (F : Fun K "__init__" "BadSum.__init__" sIniS f fd) (T : OexC K C) (no : PySem.W.findIn K (.ref C) "thing" = some none) : FnOk P w K mg base CX0 1 f fd ["self", "thing"] (spErrInit K C "thing") := by
  refine F.ok scIniS (fun vs H Q E h => ?_) (fun cdv A outer s H vs Q E hr h => ?_)
  · obtain ⟨a, y, rfl, _⟩ := h
    rfl
  · obtain ⟨a, y, rfl, ha, q⟩ := h
    exact ⟨_, pss_one (ps_ost (pv 0) (pv 1)), _, rfl, _, rfl, a, C, rfl, T, no, .inl ⟨ha, q⟩⟩
theorem ok_iniN {f C : Addr} {fd : FuncData} (F : Fun K "__init__" "BadNumber.__init__" sIniN f fd) (T : OexC K C) (no : PySem.W.findIn K (.ref C) "number" = some none) : FnOk P w K mg base CX0 1 f fd ["self", "number"] (spErrInit K C "number") := by
  refine F.ok scIniN (fun vs H Q E h => ?_) (fun cdv A outer s H vs Q E hr h => ?_)
  · obtain ⟨a, y, rfl, _⟩ := h
    rfl
  · obtain ⟨a, y, rfl, ha, q⟩ := h
    exact ⟨_, pss_one (ps_ost (pv 0) (pv 1)), _, rfl, _, rfl, a, C, rfl, T, no, .inl ⟨ha, q⟩⟩
theorem ok_iniW {f C : Addr} {fd : FuncData} (F : Fun K "__init__" "BadWorths.__init__" sIniW f fd) (T : OexC K C) (no : PySem.W.findIn K (.ref C) "key" = some none) : FnOk P w K mg base CX0 1 f fd ["self", "key"] (spErrInit K C "key") := by
  refine F.ok scIniW (fun vs H Q E h => ?_) (fun cdv A outer s H vs Q E hr h => ?_)
  · obtain ⟨a, y, rfl, _⟩ := h
    rfl
  · obtain ⟨a, y, rfl, ha, q⟩ := h
    exact ⟨_, pss_one (ps_ost (pv 0) (pv 1)), _, rfl, _, rfl, a, C, rfl, T, no, .inl ⟨ha, q⟩⟩
end
end DR

namespace DR
open PySem PySem.Spec PyProof.Rows L2
/-! ### dicts whose keys are of several kinds -/
/-- what may be a key here -/
def keyOk : Value → Bool
  | .ref _ => true
  | .str _ _ => true
  | .int _ _ => true
  | .bool _ => true
  | .none => true
  | _ => false
structure VKind (prog : Program) (w : World) (K : Type) [DecidableEq K] where
  is : Heap → K → Value → Prop
  hash : K → Int
  draws : K → Nat
  room : Around → Prop
  ok : ∀ {h : Heap} {v : Value} {x : K}, is h x v → keyOk v = true
  inj : ∀ {h : Heap} {v : Value} {x y : K}, is h x v → is h y v → x = y
  keeps : ∀ {h h' : Heap} {k : K} {v : Value} {d : Addr} {o : Obj} {es ep}, is h k v → h.get? d = some o → o.data = .dict es ep → Heap.SameBut d h h' → is h' k v
  pyHash : ∀ {A : Around} {E : Value → Shared → Prop} {s : Shared} {k : K} {v : Value} {Q : Int → Shared → Prop}, room A → is s.heap k v → Q (hash k) { s with toks := s.toks + draws k } → wpAny (model prog w) A (PySem.pyHash v) Q E s
  eqBool : ∀ {A : Around} {E : Value → Shared → Prop} {s : Shared} {x y : K} {a b : Value} {Q : Bool → Shared → Prop}, room A → is s.heap x a → is s.heap y b → Q (decide (x = y)) s → wpAny (model prog w) A (PySem.eqBool a b) Q E s
  quiet : ∀ {A : Around} {E : Value → Shared → Prop} {s : Shared} {k : K} {v : Value} {Q : Bool → Shared → Prop}, is s.heap k v → Q true s → wpAny (model prog w) A (eqIsQuiet 8 v) Q E s
section
variable {prog : Program} {w : World} {K : Type} [DecidableEq K] (V : VKind prog w K)
def entV (x : K × Value × Value) : DictEntry := ⟨V.hash x.1, x.2.1, x.2.2⟩
abbrev plcs (es : Array DictEntry) (h : Int) : List Nat := placesWithHash es.size (fun i => es[i]?.map (·.hash)) h
/-- the table at d -/
def TabV (h : Heap) (d : Addr) (xs : List (K × Value × Value)) : Prop :=
  ∃ o es ep, h.get? d = some o ∧ o.ExactDict ∧ o.data = .dict es ep ∧ es.toList = xs.map (entV V) ∧ (∀ x ∈ xs, V.is h x.1 x.2.1) ∧ (xs.map (·.1)).Nodup
variable {V} {A : Around} {E : Value → Shared → Prop} {s : Shared}
theorem entV_at {es : Array DictEntry} {xs : List (K × Value × Value)} (he : es.toList = xs.map (entV V)) (j : Nat) : es[j]? = (xs[j]?).map (entV V) := by
  rw [← Array.getElem?_toList, he, List.getElem?_map]
theorem sizeV {es : Array DictEntry} {xs : List (K × Value × Value)} (he : es.toList = xs.map (entV V)) : es.size = xs.length := by
  rw [← Array.length_toList, he, List.length_map]
theorem mem_plcs {es : Array DictEntry} {xs : List (K × Value × Value)} (he : es.toList = xs.map (entV V)) {h : Int} {i : Nat} (hi : i ∈ plcs es h) : ∃ k v u, xs[i]? = some (k, v, u) ∧ V.hash k = h := by
  obtain ⟨_, hp0⟩ := List.mem_filter.mp hi
  have hp : ((es[i]?.map (·.hash)) == some h) = true := hp0
  rw [entV_at he] at hp
  cases e : xs[i]? with
  | none => rw [e] at hp; simp at hp
  | some x =>
    rw [e] at hp
    exact ⟨x.1, x.2.1, x.2.2, rfl, by simpa [entV] using hp⟩
theorem in_plcs {es : Array DictEntry} {xs : List (K × Value × Value)} (he : es.toList = xs.map (entV V)) {j : Nat} {k : K} {p : Value × Value} (hj : xs[j]? = some (k, p)) : j ∈ plcs es (V.hash k) := by
  refine List.mem_filter.mpr ⟨?_, ?_⟩
  · have := (List.getElem?_eq_some_iff.mp hj).1
    exact List.mem_range.mpr (by rw [sizeV he]; exact this)
  · show ((es[j]?.map (·.hash)) == some (V.hash k)) = true
    rw [entV_at he, hj]
    simp [entV]
theorem nod_plcs (es : Array DictEntry) (h : Int) : (plcs es h).Nodup := List.Nodup.sublist List.filter_sublist List.nodup_range
theorem idxV {xs : List (K × Value × Value)} (hn : (xs.map (·.1)).Nodup) {i j : Nat} {k : K} {p q : Value × Value} (hi : xs[i]? = some (k, p)) (hj : xs[j]? = some (k, q)) : i = j := by
  have hi' : (xs.map (·.1))[i]? = some k := by rw [List.getElem?_map, hi]; rfl
  have hj' : (xs.map (·.1))[j]? = some k := by rw [List.getElem?_map, hj]; rfl
  exact (List.getElem?_inj (List.getElem?_eq_some_iff.mp hi').1 hn).mp (hi'.trans hj'.symm)
/-- the walk over plain keys -/
theorem walkV {d : Addr} {key : Value} {o : Obj} {es ep} {xs : List (K × Value × Value)} {k : K} {Q : Option Nat → Shared → Prop} (hu : V.room A) (hkey : V.is s.heap k key)
    (ho : s.heap.get? d = some o) (hd : o.data = .dict es ep) (he : es.toList = xs.map (entV V)) (his : ∀ x ∈ xs, V.is s.heap x.1 x.2.1)
    (hnone : (∀ (j : Nat) (p : Value × Value), xs[j]? ≠ some (k, p)) → Q none s) (hsome : ∀ (j : Nat) (p : Value × Value), xs[j]? = some (k, p) → Q (some j) s) :
    wpAny (model prog w) A (dictWalkPlain d key (V.hash k) es (plcs es (V.hash k))) Q E s := by
  unfold dictWalkPlain
  refine wpAny_bind ?_
  refine wpAny_forIn_list _ (fun rest b s' => s' = s ∧ b = (none, ()) ∧ (∀ i ∈ rest, i ∈ plcs es (V.hash k)) ∧ ∀ j p, xs[j]? = some (k, p) → j ∈ rest) _ ?_ ?_ _ _ ⟨rfl, rfl, fun _ h => h, fun j p h => in_plcs he h⟩
  · rintro x rest b s' ⟨rfl, rfl, hin, hall⟩
    obtain ⟨k', v', u', hx, hh⟩ := mem_plcs he (hin x (List.mem_cons_self ..))
    have hex : es[x]? = some ⟨V.hash k', v', u'⟩ := by rw [entV_at he, hx]; rfl
    have hib : V.is s'.heap k' v' := his _ (List.mem_of_getElem? hx)
    rw [hex]
    dsimp only
    rw [if_pos (by rw [hh]; simp)]
    refine wpAny_bind (wpAny_dictEpoch ho hd (wpAny_bind (V.eqBool hu hib hkey (wpAny_bind (wpAny_dictEpoch ho hd ?_)))))
    show wpAny _ _ (if (ep != ep) = true then _ else _) _ E _
    rw [if_neg (by simp)]
    by_cases hkk : k' = k
    · subst hkk
      rw [decide_eq_true rfl]
      exact wpAny_bind (wpAny_rule (wpAny_pure (wpAny_pure (hsome x _ hx))))
    · rw [decide_eq_false hkk]
      refine wpAny_bind (wpAny_rule (wpAny_pure ⟨rfl, rfl, fun i hi => hin i (List.mem_cons_of_mem _ hi), fun j p hj => ?_⟩))
      rcases List.mem_cons.mp (hall j p hj) with z | z
      · rw [z, hx] at hj
        exact absurd (Prod.mk.inj (Option.some.inj hj)).1 hkk
      · exact z
  · rintro b s' ⟨rfl, rfl, hin, hall⟩
    exact wpAny_pure (hnone fun j p hj => absurd (hall j p hj) (by simp))
end
end DR

namespace DR
open PySem PySem.Spec PyProof.Rows L2
section
variable {prog : Program} {w : World} {K : Type} [DecidableEq K] {V : VKind prog w K} {A : Around} {E : Value → Shared → Prop} {s : Shared}
theorem tellV {key : Value} {k : K} {stored : List Value} {Q : Bool → Shared → Prop} (hkey : V.is s.heap k key) (hst : ∀ v ∈ stored, ∃ k', V.is s.heap k' v) (h : Q false s) : wpAny (model prog w) A (tableMayTell key stored) Q E s := by
  unfold tableMayTell
  split
  · exact wpAny_pure h
  · refine wpAny_bind (V.quiet hkey ?_)
    simp only [Bool.not_true, Bool.false_eq_true, if_false]
    refine wpAny_bind ?_
    refine wpAny_forIn_list _ (fun rest r s' => s' = s ∧ r = (none, ()) ∧ ∀ v ∈ rest, ∃ k', V.is s.heap k' v) _ ?_ ?_ _ _ ⟨rfl, rfl, hst⟩
    · rintro x rest r s' ⟨rfl, rfl, hr⟩
      obtain ⟨k', hb⟩ := hr x List.mem_cons_self
      refine wpAny_bind (V.quiet hb ?_)
      simp only [Bool.not_true, Bool.false_eq_true, if_false]
      exact wpAny_pure ⟨rfl, rfl, fun v hv => hr v (List.mem_cons_of_mem _ hv)⟩
    · rintro r s' ⟨rfl, rfl, _⟩
      exact wpAny_pure h
theorem findV {d : Addr} {key : Value} {o : Obj} {es ep} {xs : List (K × Value × Value)} {k : K} {Q : Option Nat → Shared → Prop} (hu : V.room A) (hkey : V.is s.heap k key)
    (ho : s.heap.get? d = some o) (hd : o.data = .dict es ep) (he : es.toList = xs.map (entV V)) (his : ∀ x ∈ xs, V.is s.heap x.1 x.2.1) (hn : (xs.map (·.1)).Nodup)
    (hs : isExactStrKey key = true → (es.all fun e => isExactStrKey e.key) = false)
    (hnone : (∀ (j : Nat) (p : Value × Value), xs[j]? ≠ some (k, p)) → Q none s) (hsome : ∀ (j : Nat) (p : Value × Value), xs[j]? = some (k, p) → Q (some j) s) :
    wpAny (model prog w) A (dictFind d key (V.hash k)) Q E s := by
  have hmem : ∀ e ∈ es, ∃ x ∈ xs, e = entV V x := by
    intro e hin
    have : e ∈ xs.map (entV V) := he ▸ Array.mem_toList_iff.mpr hin
    obtain ⟨x, hx, rfl⟩ := List.mem_map.mp this
    exact ⟨x, hx, rfl⟩
  have hany : ¬ (es.any fun e => e.key == key && e.hash != V.hash k) = true := by
    rw [← Array.any_toList, List.any_eq_true]
    rintro ⟨e, hin, hc⟩
    obtain ⟨x, hx, rfl⟩ := hmem e (Array.mem_toList_iff.mp hin)
    rw [Bool.and_eq_true] at hc
    obtain ⟨h1, h2⟩ := hc
    have e1 : x.2.1 = key := eq_of_beq h1
    have := his x hx
    rw [e1] at this
    rw [show (entV V x).hash = V.hash k from congrArg V.hash (V.inj this hkey)] at h2
    simp at h2
  have hst : ∀ v ∈ (plcs es (V.hash k)).filterMap (fun i => es[i]?.map (·.key)), ∃ k', V.is s.heap k' v := by
    intro v hv
    obtain ⟨i, _, hi⟩ := List.mem_filterMap.mp hv
    cases hei : es[i]? with
    | none => rw [hei] at hi; cases hi
    | some e =>
      rw [hei] at hi
      obtain rfl : e.key = v := by simpa using hi
      obtain ⟨x, hx, rfl⟩ := hmem e (Array.mem_of_getElem? hei)
      exact ⟨x.1, his x hx⟩
  have plain := walkV (Q := Q) (E := E) hu hkey ho hd he his hnone hsome
  unfold dictFind
  try with_reducible refine wpAny_holding ?_
  refine wpAny_bind (wpAny_dictEntries ho hd ?_)
  cases key with
  | ref a =>
    dsimp only
    rw [if_neg (show ¬ ((Value.ref a :: (plcs es (V.hash k)).filterMap (fun i => es[i]?.map (·.key))).all carriedByValue) = true by simp [carriedByValue])]
    rw [if_neg hany]
    by_cases hone : (((plcs es (V.hash k)).filterMap (fun i => es[i]?.map (·.key))) == [Value.ref a]) = true <;>
    (first | rw [if_pos hone] | rw [if_neg hone]) <;> (first | refine wpAny_bind (wpAny_pure ?_) | refine wpAny_bind (tellV hkey hst ?_)) <;> (
      rw [if_neg (by simp)]
      refine wpAny_bind ?_
      refine wpAny_forIn_list _ (fun rest b s' => s' = s ∧ rest.Nodup ∧ (∀ i ∈ rest, i ∈ plcs es (V.hash k)) ∧ ∃ hit, b = (none, hit) ∧ ((hit = none ∧ ∀ j p, xs[j]? = some (k, p) → j ∈ rest) ∨ ∃ j p, hit = some j ∧ xs[j]? = some (k, p) ∧ j ∉ rest)) _ ?_ ?_ _ _
        ⟨rfl, nod_plcs _ _, fun _ h => h, none, rfl, .inl ⟨rfl, fun j p h => in_plcs he h⟩⟩
      · rintro x rest b s' ⟨rfl, nd, hin, hit, rfl, hH⟩
        obtain ⟨k', v', u', hx, hh⟩ := mem_plcs he (hin x (List.mem_cons_self ..))
        have hex : es[x]? = some ⟨V.hash k', v', u'⟩ := by rw [entV_at he, hx]; rfl
        have hib : V.is s'.heap k' v' := his _ (List.mem_of_getElem? hx)
        have nd' := List.nodup_cons.mp nd
        have hin' : ∀ i ∈ rest, i ∈ plcs es (V.hash k) := fun i hi => hin i (List.mem_cons_of_mem _ hi)
        rw [hex]
        dsimp only
        rw [if_pos (by rw [hh]; simp)]
        refine wpAny_bind (wpAny_dictEpoch ho hd (wpAny_bind (V.eqBool hu hib hkey (wpAny_bind (wpAny_dictEpoch ho hd ?_)))))
        show wpAny _ _ (if (ep != ep) = true then _ else _) _ E _
        rw [if_neg (by simp)]
        by_cases hkk : k' = k
        · subst hkk
          rw [decide_eq_true rfl]
          rcases hH with ⟨rfl, _⟩ | ⟨j, p, _, hj, hjn⟩
          · first | rw [if_pos rfl] | skip
            simp only [Option.isSome_none, Bool.false_eq_true, if_false]
            first | refine wpAny_bind (wpAny_pure ?_) | skip
            refine wpAny_bind (wpAny_rule ?_)
            split
            · exact wpAny_pure (wpAny_pure (hsome x _ hx))
            · exact wpAny_pure ⟨rfl, nd'.2, hin', some x, rfl, .inr ⟨x, _, rfl, hx, nd'.1⟩⟩
          · exact absurd (idxV hn hj hx) (fun z => hjn (by rw [z]; exact List.mem_cons_self ..))
        · rw [decide_eq_false hkk]
          simp only [Bool.false_eq_true, if_false]
          have next : (hit = none ∧ ∀ j p, xs[j]? = some (k, p) → j ∈ rest) ∨ ∃ j p, hit = some j ∧ xs[j]? = some (k, p) ∧ j ∉ rest := by
            rcases hH with ⟨h0, hall⟩ | ⟨j, p, h1, hj, hjn⟩
            · refine .inl ⟨h0, fun j p hj => ?_⟩
              rcases List.mem_cons.mp (hall j p hj) with z | z
              · rw [z, hx] at hj
                exact absurd (Prod.mk.inj (Option.some.inj hj)).1 hkk
              · exact z
            · exact .inr ⟨j, p, h1, hj, fun z => hjn (List.mem_cons_of_mem _ z)⟩
          refine wpAny_bind (wpAny_rule ?_)
          first | rw [if_neg (by simp)] | skip
          first
            | exact wpAny_pure ⟨rfl, nd'.2, hin', hit, rfl, next⟩
            | exact wpAny_bind (wpAny_pure (wpAny_pure ⟨rfl, nd'.2, hin', hit, rfl, next⟩))
      · rintro b s' ⟨rfl, _, _, hit, rfl, hH⟩
        rcases hH with ⟨rfl, hall⟩ | ⟨j, p, rfl, hj, _⟩
        · exact wpAny_pure (hnone fun j p hj => absurd (hall j p hj) (by simp))
        · exact wpAny_pure (hsome j p hj))
  | str x t =>
    dsimp only
    rw [if_neg (by rw [hs rfl]; exact Bool.false_ne_true)]
    by_cases hall0 : ((Value.str x t :: (plcs es (V.hash k)).filterMap (fun i => es[i]?.map (·.key))).all carriedByValue) = true
    · rw [if_pos hall0]
      exact plain
    rw [if_neg hall0]
    try dsimp only
    by_cases hone : (((plcs es (V.hash k)).filterMap (fun i => es[i]?.map (·.key))) == [Value.str x t]) = true <;>
    (first | rw [if_pos hone] | rw [if_neg hone]) <;> (first | refine wpAny_bind (wpAny_pure ?_) | refine wpAny_bind (tellV hkey hst ?_)) <;> (
      rw [if_neg (by simp)]
      refine wpAny_bind ?_
      refine wpAny_forIn_list _ (fun rest b s' => s' = s ∧ rest.Nodup ∧ (∀ i ∈ rest, i ∈ plcs es (V.hash k)) ∧ ∃ hit, b = (none, hit) ∧ ((hit = none ∧ ∀ j p, xs[j]? = some (k, p) → j ∈ rest) ∨ ∃ j p, hit = some j ∧ xs[j]? = some (k, p) ∧ j ∉ rest)) _ ?_ ?_ _ _
        ⟨rfl, nod_plcs _ _, fun _ h => h, none, rfl, .inl ⟨rfl, fun j p h => in_plcs he h⟩⟩
      · rintro x rest b s' ⟨rfl, nd, hin, hit, rfl, hH⟩
        obtain ⟨k', v', u', hx, hh⟩ := mem_plcs he (hin x (List.mem_cons_self ..))
        have hex : es[x]? = some ⟨V.hash k', v', u'⟩ := by rw [entV_at he, hx]; rfl
        have hib : V.is s'.heap k' v' := his _ (List.mem_of_getElem? hx)
        have nd' := List.nodup_cons.mp nd
        have hin' : ∀ i ∈ rest, i ∈ plcs es (V.hash k) := fun i hi => hin i (List.mem_cons_of_mem _ hi)
        rw [hex]
        dsimp only
        rw [if_pos (by rw [hh]; simp)]
        refine wpAny_bind (wpAny_dictEpoch ho hd (wpAny_bind (V.eqBool hu hib hkey (wpAny_bind (wpAny_dictEpoch ho hd ?_)))))
        show wpAny _ _ (if (ep != ep) = true then _ else _) _ E _
        rw [if_neg (by simp)]
        by_cases hkk : k' = k
        · subst hkk
          rw [decide_eq_true rfl]
          rcases hH with ⟨rfl, _⟩ | ⟨j, p, _, hj, hjn⟩
          · first | rw [if_pos rfl] | skip
            simp only [Option.isSome_none, Bool.false_eq_true, if_false]
            first | refine wpAny_bind (wpAny_pure ?_) | skip
            refine wpAny_bind (wpAny_rule ?_)
            split
            · exact wpAny_pure (wpAny_pure (hsome x _ hx))
            · exact wpAny_pure ⟨rfl, nd'.2, hin', some x, rfl, .inr ⟨x, _, rfl, hx, nd'.1⟩⟩
          · exact absurd (idxV hn hj hx) (fun z => hjn (by rw [z]; exact List.mem_cons_self ..))
        · rw [decide_eq_false hkk]
          simp only [Bool.false_eq_true, if_false]
          have next : (hit = none ∧ ∀ j p, xs[j]? = some (k, p) → j ∈ rest) ∨ ∃ j p, hit = some j ∧ xs[j]? = some (k, p) ∧ j ∉ rest := by
            rcases hH with ⟨h0, hall⟩ | ⟨j, p, h1, hj, hjn⟩
            · refine .inl ⟨h0, fun j p hj => ?_⟩
              rcases List.mem_cons.mp (hall j p hj) with z | z
              · rw [z, hx] at hj
                exact absurd (Prod.mk.inj (Option.some.inj hj)).1 hkk
              · exact z
            · exact .inr ⟨j, p, h1, hj, fun z => hjn (List.mem_cons_of_mem _ z)⟩
          refine wpAny_bind (wpAny_rule ?_)
          first | rw [if_neg (by simp)] | skip
          first
            | exact wpAny_pure ⟨rfl, nd'.2, hin', hit, rfl, next⟩
            | exact wpAny_bind (wpAny_pure (wpAny_pure ⟨rfl, nd'.2, hin', hit, rfl, next⟩))
      · rintro b s' ⟨rfl, _, _, hit, rfl, hH⟩
        rcases hH with ⟨rfl, hall⟩ | ⟨j, p, rfl, hj, _⟩
        · exact wpAny_pure (hnone fun j p hj => absurd (hall j p hj) (by simp))
        · exact wpAny_pure (hsome j p hj))
  | none =>
    dsimp only
    by_cases hall0 : ((Value.none :: (plcs es (V.hash k)).filterMap (fun i => es[i]?.map (·.key))).all carriedByValue) = true
    · rw [if_pos hall0]
      exact plain
    rw [if_neg hall0]
    try dsimp only
    by_cases hone : (((plcs es (V.hash k)).filterMap (fun i => es[i]?.map (·.key))) == [Value.none]) = true <;>
    (first | rw [if_pos hone] | rw [if_neg hone]) <;> (first | refine wpAny_bind (wpAny_pure ?_) | refine wpAny_bind (tellV hkey hst ?_)) <;> (
      rw [if_neg (by simp)]
      refine wpAny_bind ?_
      refine wpAny_forIn_list _ (fun rest b s' => s' = s ∧ rest.Nodup ∧ (∀ i ∈ rest, i ∈ plcs es (V.hash k)) ∧ ∃ hit, b = (none, hit) ∧ ((hit = none ∧ ∀ j p, xs[j]? = some (k, p) → j ∈ rest) ∨ ∃ j p, hit = some j ∧ xs[j]? = some (k, p) ∧ j ∉ rest)) _ ?_ ?_ _ _
        ⟨rfl, nod_plcs _ _, fun _ h => h, none, rfl, .inl ⟨rfl, fun j p h => in_plcs he h⟩⟩
      · rintro x rest b s' ⟨rfl, nd, hin, hit, rfl, hH⟩
        obtain ⟨k', v', u', hx, hh⟩ := mem_plcs he (hin x (List.mem_cons_self ..))
        have hex : es[x]? = some ⟨V.hash k', v', u'⟩ := by rw [entV_at he, hx]; rfl
        have hib : V.is s'.heap k' v' := his _ (List.mem_of_getElem? hx)
        have nd' := List.nodup_cons.mp nd
        have hin' : ∀ i ∈ rest, i ∈ plcs es (V.hash k) := fun i hi => hin i (List.mem_cons_of_mem _ hi)
        rw [hex]
        dsimp only
        rw [if_pos (by rw [hh]; simp)]
        refine wpAny_bind (wpAny_dictEpoch ho hd (wpAny_bind (V.eqBool hu hib hkey (wpAny_bind (wpAny_dictEpoch ho hd ?_)))))
        show wpAny _ _ (if (ep != ep) = true then _ else _) _ E _
        rw [if_neg (by simp)]
        by_cases hkk : k' = k
        · subst hkk
          rw [decide_eq_true rfl]
          rcases hH with ⟨rfl, _⟩ | ⟨j, p, _, hj, hjn⟩
          · first | rw [if_pos rfl] | skip
            simp only [Option.isSome_none, Bool.false_eq_true, if_false]
            first | refine wpAny_bind (wpAny_pure ?_) | skip
            refine wpAny_bind (wpAny_rule ?_)
            split
            · exact wpAny_pure (wpAny_pure (hsome x _ hx))
            · exact wpAny_pure ⟨rfl, nd'.2, hin', some x, rfl, .inr ⟨x, _, rfl, hx, nd'.1⟩⟩
          · exact absurd (idxV hn hj hx) (fun z => hjn (by rw [z]; exact List.mem_cons_self ..))
        · rw [decide_eq_false hkk]
          simp only [Bool.false_eq_true, if_false]
          have next : (hit = none ∧ ∀ j p, xs[j]? = some (k, p) → j ∈ rest) ∨ ∃ j p, hit = some j ∧ xs[j]? = some (k, p) ∧ j ∉ rest := by
            rcases hH with ⟨h0, hall⟩ | ⟨j, p, h1, hj, hjn⟩
            · refine .inl ⟨h0, fun j p hj => ?_⟩
              rcases List.mem_cons.mp (hall j p hj) with z | z
              · rw [z, hx] at hj
                exact absurd (Prod.mk.inj (Option.some.inj hj)).1 hkk
              · exact z
            · exact .inr ⟨j, p, h1, hj, fun z => hjn (List.mem_cons_of_mem _ z)⟩
          refine wpAny_bind (wpAny_rule ?_)
          first | rw [if_neg (by simp)] | skip
          first
            | exact wpAny_pure ⟨rfl, nd'.2, hin', hit, rfl, next⟩
            | exact wpAny_bind (wpAny_pure (wpAny_pure ⟨rfl, nd'.2, hin', hit, rfl, next⟩))
      · rintro b s' ⟨rfl, _, _, hit, rfl, hH⟩
        rcases hH with ⟨rfl, hall⟩ | ⟨j, p, rfl, hj, _⟩
        · exact wpAny_pure (hnone fun j p hj => absurd (hall j p hj) (by simp))
        · exact wpAny_pure (hsome j p hj))
  | int x t =>
    dsimp only
    by_cases hall0 : ((Value.int x t :: (plcs es (V.hash k)).filterMap (fun i => es[i]?.map (·.key))).all carriedByValue) = true
    · rw [if_pos hall0]
      exact plain
    rw [if_neg hall0]
    try dsimp only
    by_cases hone : (((plcs es (V.hash k)).filterMap (fun i => es[i]?.map (·.key))) == [Value.int x t]) = true <;>
    (first | rw [if_pos hone] | rw [if_neg hone]) <;> (first | refine wpAny_bind (wpAny_pure ?_) | refine wpAny_bind (tellV hkey hst ?_)) <;> (
      rw [if_neg (by simp)]
      refine wpAny_bind ?_
      refine wpAny_forIn_list _ (fun rest b s' => s' = s ∧ rest.Nodup ∧ (∀ i ∈ rest, i ∈ plcs es (V.hash k)) ∧ ∃ hit, b = (none, hit) ∧ ((hit = none ∧ ∀ j p, xs[j]? = some (k, p) → j ∈ rest) ∨ ∃ j p, hit = some j ∧ xs[j]? = some (k, p) ∧ j ∉ rest)) _ ?_ ?_ _ _
        ⟨rfl, nod_plcs _ _, fun _ h => h, none, rfl, .inl ⟨rfl, fun j p h => in_plcs he h⟩⟩
      · rintro x rest b s' ⟨rfl, nd, hin, hit, rfl, hH⟩
        obtain ⟨k', v', u', hx, hh⟩ := mem_plcs he (hin x (List.mem_cons_self ..))
        have hex : es[x]? = some ⟨V.hash k', v', u'⟩ := by rw [entV_at he, hx]; rfl
        have hib : V.is s'.heap k' v' := his _ (List.mem_of_getElem? hx)
        have nd' := List.nodup_cons.mp nd
        have hin' : ∀ i ∈ rest, i ∈ plcs es (V.hash k) := fun i hi => hin i (List.mem_cons_of_mem _ hi)
        rw [hex]
        dsimp only
        rw [if_pos (by rw [hh]; simp)]
        refine wpAny_bind (wpAny_dictEpoch ho hd (wpAny_bind (V.eqBool hu hib hkey (wpAny_bind (wpAny_dictEpoch ho hd ?_)))))
        show wpAny _ _ (if (ep != ep) = true then _ else _) _ E _
        rw [if_neg (by simp)]
        by_cases hkk : k' = k
        · subst hkk
          rw [decide_eq_true rfl]
          rcases hH with ⟨rfl, _⟩ | ⟨j, p, _, hj, hjn⟩
          · first | rw [if_pos rfl] | skip
            simp only [Option.isSome_none, Bool.false_eq_true, if_false]
            first | refine wpAny_bind (wpAny_pure ?_) | skip
            refine wpAny_bind (wpAny_rule ?_)
            split
            · exact wpAny_pure (wpAny_pure (hsome x _ hx))
            · exact wpAny_pure ⟨rfl, nd'.2, hin', some x, rfl, .inr ⟨x, _, rfl, hx, nd'.1⟩⟩
          · exact absurd (idxV hn hj hx) (fun z => hjn (by rw [z]; exact List.mem_cons_self ..))
        · rw [decide_eq_false hkk]
          simp only [Bool.false_eq_true, if_false]
          have next : (hit = none ∧ ∀ j p, xs[j]? = some (k, p) → j ∈ rest) ∨ ∃ j p, hit = some j ∧ xs[j]? = some (k, p) ∧ j ∉ rest := by
            rcases hH with ⟨h0, hall⟩ | ⟨j, p, h1, hj, hjn⟩
            · refine .inl ⟨h0, fun j p hj => ?_⟩
              rcases List.mem_cons.mp (hall j p hj) with z | z
              · rw [z, hx] at hj
                exact absurd (Prod.mk.inj (Option.some.inj hj)).1 hkk
              · exact z
            · exact .inr ⟨j, p, h1, hj, fun z => hjn (List.mem_cons_of_mem _ z)⟩
          refine wpAny_bind (wpAny_rule ?_)
          first | rw [if_neg (by simp)] | skip
          first
            | exact wpAny_pure ⟨rfl, nd'.2, hin', hit, rfl, next⟩
            | exact wpAny_bind (wpAny_pure (wpAny_pure ⟨rfl, nd'.2, hin', hit, rfl, next⟩))
      · rintro b s' ⟨rfl, _, _, hit, rfl, hH⟩
        rcases hH with ⟨rfl, hall⟩ | ⟨j, p, rfl, hj, _⟩
        · exact wpAny_pure (hnone fun j p hj => absurd (hall j p hj) (by simp))
        · exact wpAny_pure (hsome j p hj))
  | bool x =>
    dsimp only
    by_cases hall0 : ((Value.bool x :: (plcs es (V.hash k)).filterMap (fun i => es[i]?.map (·.key))).all carriedByValue) = true
    · rw [if_pos hall0]
      exact plain
    rw [if_neg hall0]
    try dsimp only
    by_cases hone : (((plcs es (V.hash k)).filterMap (fun i => es[i]?.map (·.key))) == [Value.bool x]) = true <;>
    (first | rw [if_pos hone] | rw [if_neg hone]) <;> (first | refine wpAny_bind (wpAny_pure ?_) | refine wpAny_bind (tellV hkey hst ?_)) <;> (
      rw [if_neg (by simp)]
      refine wpAny_bind ?_
      refine wpAny_forIn_list _ (fun rest b s' => s' = s ∧ rest.Nodup ∧ (∀ i ∈ rest, i ∈ plcs es (V.hash k)) ∧ ∃ hit, b = (none, hit) ∧ ((hit = none ∧ ∀ j p, xs[j]? = some (k, p) → j ∈ rest) ∨ ∃ j p, hit = some j ∧ xs[j]? = some (k, p) ∧ j ∉ rest)) _ ?_ ?_ _ _
        ⟨rfl, nod_plcs _ _, fun _ h => h, none, rfl, .inl ⟨rfl, fun j p h => in_plcs he h⟩⟩
      · rintro x rest b s' ⟨rfl, nd, hin, hit, rfl, hH⟩
        obtain ⟨k', v', u', hx, hh⟩ := mem_plcs he (hin x (List.mem_cons_self ..))
        have hex : es[x]? = some ⟨V.hash k', v', u'⟩ := by rw [entV_at he, hx]; rfl
        have hib : V.is s'.heap k' v' := his _ (List.mem_of_getElem? hx)
        have nd' := List.nodup_cons.mp nd
        have hin' : ∀ i ∈ rest, i ∈ plcs es (V.hash k) := fun i hi => hin i (List.mem_cons_of_mem _ hi)
        rw [hex]
        dsimp only
        rw [if_pos (by rw [hh]; simp)]
        refine wpAny_bind (wpAny_dictEpoch ho hd (wpAny_bind (V.eqBool hu hib hkey (wpAny_bind (wpAny_dictEpoch ho hd ?_)))))
        show wpAny _ _ (if (ep != ep) = true then _ else _) _ E _
        rw [if_neg (by simp)]
        by_cases hkk : k' = k
        · subst hkk
          rw [decide_eq_true rfl]
          rcases hH with ⟨rfl, _⟩ | ⟨j, p, _, hj, hjn⟩
          · first | rw [if_pos rfl] | skip
            simp only [Option.isSome_none, Bool.false_eq_true, if_false]
            first | refine wpAny_bind (wpAny_pure ?_) | skip
            refine wpAny_bind (wpAny_rule ?_)
            split
            · exact wpAny_pure (wpAny_pure (hsome x _ hx))
            · exact wpAny_pure ⟨rfl, nd'.2, hin', some x, rfl, .inr ⟨x, _, rfl, hx, nd'.1⟩⟩
          · exact absurd (idxV hn hj hx) (fun z => hjn (by rw [z]; exact List.mem_cons_self ..))
        · rw [decide_eq_false hkk]
          simp only [Bool.false_eq_true, if_false]
          have next : (hit = none ∧ ∀ j p, xs[j]? = some (k, p) → j ∈ rest) ∨ ∃ j p, hit = some j ∧ xs[j]? = some (k, p) ∧ j ∉ rest := by
            rcases hH with ⟨h0, hall⟩ | ⟨j, p, h1, hj, hjn⟩
            · refine .inl ⟨h0, fun j p hj => ?_⟩
              rcases List.mem_cons.mp (hall j p hj) with z | z
              · rw [z, hx] at hj
                exact absurd (Prod.mk.inj (Option.some.inj hj)).1 hkk
              · exact z
            · exact .inr ⟨j, p, h1, hj, fun z => hjn (List.mem_cons_of_mem _ z)⟩
          refine wpAny_bind (wpAny_rule ?_)
          first | rw [if_neg (by simp)] | skip
          first
            | exact wpAny_pure ⟨rfl, nd'.2, hin', hit, rfl, next⟩
            | exact wpAny_bind (wpAny_pure (wpAny_pure ⟨rfl, nd'.2, hin', hit, rfl, next⟩))
      · rintro b s' ⟨rfl, _, _, hit, rfl, hH⟩
        rcases hH with ⟨rfl, hall⟩ | ⟨j, p, rfl, hj, _⟩
        · exact wpAny_pure (hnone fun j p hj => absurd (hall j p hj) (by simp))
        · exact wpAny_pure (hsome j p hj))
  | _ => exact Bool.noConfusion (V.ok hkey)
theorem atV_get {xs : List (K × Value × Value)} (hn : (xs.map (·.1)).Nodup) {i : Nat} {k : K} {p : Value × Value} (hx : xs[i]? = some (k, p)) : (xs.find? fun x => decide (x.1 = k)).map (·.2) = some p := by
  cases e : xs.find? fun x => decide (x.1 = k) with
  | none =>
    have := List.find?_eq_none.mp e _ (List.mem_of_getElem? hx)
    simp at this
  | some y =>
    have hy : y.1 = k := of_decide_eq_true (List.find?_some (p := fun x : K × Value × Value => decide (x.1 = k)) e)
    obtain ⟨j, hj⟩ := List.mem_iff_getElem?.mp (List.mem_of_find?_eq_some e)
    have hj' : xs[j]? = some (k, y.2) := by
      rw [hj, ← hy]
    have e2 := idxV hn hx hj'
    rw [e2, hj'] at hx
    rw [← (Prod.mk.inj (Option.some.inj hx)).2]
    rfl
/-- d[key], there -/
theorem getV {d : Addr} {key : Value} {xs : List (K × Value × Value)} {k : K} {i : Nat} {p : Value × Value} {Q : Option Value → Shared → Prop} (hu : V.room A) (hkey : V.is s.heap k key) (hm : TabV V s.heap d xs) (hi : xs[i]? = some (k, p))
    (hs : isExactStrKey key = true → ∃ x ∈ xs, isExactStrKey x.2.1 = false) (h : Q (some p.2) { s with toks := s.toks + V.draws k }) : wpAny (model prog w) A (dictGet d key) Q E s := by
  obtain ⟨o, es, ep, ho, _, hd, he, his, hn⟩ := hm
  have hs' : isExactStrKey key = true → (es.all fun e => isExactStrKey e.key) = false := fun z => by
    obtain ⟨x, hx, hx2⟩ := hs z
    rw [← Array.all_toList, he, List.all_map, List.all_eq_false]
    exact ⟨x, hx, by show ¬ isExactStrKey x.2.1 = true; rw [hx2]; exact Bool.false_ne_true⟩
  unfold dictGet
  try with_reducible refine wpAny_holding ?_
  refine wpAny_bind (V.pyHash hu hkey (wpAny_bind (findV (s := { s with toks := s.toks + V.draws k }) hu hkey ho hd he his hn hs' (fun hno => absurd hi (hno i p)) fun j q hj => ?_)))
  obtain rfl := idxV hn hi hj
  rw [hi] at hj
  obtain rfl := (Prod.mk.inj (Option.some.inj hj)).2
  refine wpAny_bind (wpAny_dictEntries (s := { s with toks := s.toks + V.draws k }) ho hd ?_)
  rw [entV_at he, hi]
  exact wpAny_pure h
/-- d[key] = v, a new key -/
theorem setV {d : Addr} {key : Value} {xs : List (K × Value × Value)} {k : K} {v : Value} {Q : Unit → Shared → Prop} (hu : V.room A) (hkey : V.is s.heap k key) (hm : TabV V s.heap d xs) (hnew : k ∉ xs.map (·.1))
    (hs : isExactStrKey key = true → ∃ x ∈ xs, isExactStrKey x.2.1 = false) (hQ : ∀ h', TabV V h' d (xs ++ [(k, key, v)]) → Heap.SameBut d s.heap h' → Q () { s with heap := h', toks := s.toks + V.draws k }) (hsz : xs.length < sizeLine) :
    wpAny (model prog w) A (dictSet d key v) Q E s := by
  obtain ⟨o, es, ep, ho, hc, hd, he, his, hn⟩ := hm
  have hs' : isExactStrKey key = true → (es.all fun e => isExactStrKey e.key) = false := fun z => by
    obtain ⟨x, hx, hx2⟩ := hs z
    rw [← Array.all_toList, he, List.all_map, List.all_eq_false]
    exact ⟨x, hx, by show ¬ isExactStrKey x.2.1 = true; rw [hx2]; exact Bool.false_ne_true⟩
  unfold dictSet
  try with_reducible refine wpAny_holding ?_
  refine wpAny_bind (V.pyHash hu hkey ?_)
  unfold dictSetHashed
  try with_reducible refine wpAny_holding ?_
  refine wpAny_bind (findV (s := { s with toks := s.toks + V.draws k }) hu hkey ho hd he his hn hs' (fun _ => ?_) fun j q hj => absurd (List.mem_map.mpr ⟨_, List.mem_of_getElem? hj, rfl⟩) hnew)
  have hz := sizeV he
  refine wpAny_bind (wpAny_rule (wpAny_updateDictKeys (hz := by omega) (s := { s with toks := s.toks + V.draws k }) ho hd (hQ _ ⟨_, _, ep + 1, Heap.get?_update_self _ ho (Obj.isFreed_of_dict (Obj.data_mapDictKeys hd _)), hc.mapDictKeys _, Obj.data_mapDictKeys hd _, ?_, ?_, ?_⟩ (Heap.SameBut.update ..))))
  · simp [he, entV]
  · intro x hx
    rcases List.mem_append.mp hx with hx | hx
    · exact V.keeps (his x hx) ho hd (Heap.SameBut.update ..)
    · obtain rfl : x = (k, key, v) := by simpa using hx
      exact V.keeps hkey ho hd (Heap.SameBut.update ..)
  · rw [List.map_append]
    exact List.nodup_append.mpr ⟨hn, by simp, fun a ha b hb => by
      obtain rfl : b = k := by simpa using hb
      exact fun z => hnew (z ▸ ha)⟩
end
end DR

namespace DR
open PySem PySem.Spec PyProof.Rows L2
/-- keys of every kind: None, numbers, truth values, texts, tuples of such -/
def nestV (prog : Program) (w : World) : VKind prog w NestedKey where
  is := fun h k v => NestedIs h k v ∧ k.depth ≤ 8
  hash := fun k => k.hash w
  draws := fun k => k.draws
  room := fun A => A.units + 8 < cLine
  ok := fun x => by
    obtain ⟨h, _⟩ := x
    cases h <;> rfl
  inj := fun hx hy => NestedIs.inj _ _ _ hx.1 hy.1
  keeps := fun {h h' k v d o es ep} x ho hd hs => ⟨NestedIs.at (fun b ob vs n hb hc => by
    refine (hs.2 b fun e => ?_).trans hb
    subst e
    rw [ho] at hb
    cases hb
    rw [hd] at hc
    cases hc) k _ x.1, x.2⟩
  pyHash := fun hu hk h => pyHash_key _ _ _ _ _ hk.1 (by have := hk.2; omega) h
  eqBool := fun {A E s x y a b Q} hu hx hy h => eqAt_key x y A s _ _ hx.1 hy.1 (by have := hx.2; omega) _ _ _ _ (by rw [← NestedKey.decide_eq]; exact h)
  quiet := fun {A E s k a Q} hk h => quiet_key k _ 8 s hk.1 hk.2 A E Q h
mutual
/-- what a datum is as a key -/
def nkOf : PyData → Option NestedKey
  | .none => some .none
  | .bool b => some (.num (if b = true then 1 else 0))
  | .int i => some (.num i)
  | .str x => some (.text x)
  | .list _ => none
  | .tuple ds => (nkAll ds).map .tup
  | .dict _ => none
def nkAll : List PyData → Option (List NestedKey)
  | [] => some []
  | d :: ds => (nkOf d).bind fun k => (nkAll ds).map fun ks => k :: ks
end
mutual
theorem reads_nest {h : Heap} : ∀ (d : PyData) (v : Value) (as : List Addr) (k : NestedKey), Reads h v d as → nkOf d = some k → NestedIs h k v
  | .none, _, _, _, r, e => by
    cases r
    obtain rfl := Option.some.inj (show some NestedKey.none = some _ from e)
    exact .none
  | .bool b, _, _, _, r, e => by
    cases r
    obtain rfl := Option.some.inj (show some (NestedKey.num (if b = true then 1 else 0)) = some _ from e)
    exact .bool rfl
  | .int i, _, _, _, r, e => by
    cases r
    obtain rfl := Option.some.inj (show some (NestedKey.num i) = some _ from e)
    exact .int _ _
  | .str x, _, _, _, r, e => by
    cases r
    obtain rfl := Option.some.inj (show some (NestedKey.text x) = some _ from e)
    exact .text _ _
  | .list _, _, _, _, _, e => by
    exact nomatch (show (none : Option NestedKey) = some _ from e)
  | .dict _, _, _, _, _, e => by
    exact nomatch (show (none : Option NestedKey) = some _ from e)
  | .tuple ds, _, _, k, r, e => by
    have e' : (nkAll ds).map NestedKey.tup = some k := by simpa [nkOf] using e
    cases ek : nkAll ds with
    | none => rw [ek] at e'; cases e'
    | some ks =>
      rw [ek] at e'
      obtain rfl := Option.some.inj e'
      cases r with
      | tuple h1 h2 h3 h4 => exact .tup h1 h2 h3 (reads_nestAll ds _ _ ks h4 ek)
theorem reads_nestAll {h : Heap} : ∀ (ds : List PyData) (vs : List Value) (as : List Addr) (ks : List NestedKey), ReadsAll h vs ds as → nkAll ds = some ks → NestedAll h ks vs
  | [], _, _, _, r, e => by
    cases r
    obtain rfl : [] = _ := Option.some.inj (by simpa [nkAll] using e)
    exact .nil
  | d :: ds, _, _, ks, r, e => by
    cases r with
    | cons r1 r2 =>
      have e' : ((nkOf d).bind fun k => (nkAll ds).map fun ks => k :: ks) = some ks := by simpa [nkAll] using e
      cases e1 : nkOf d with
      | none => rw [e1] at e'; cases e'
      | some k =>
        rw [e1] at e'
        cases e2 : nkAll ds with
        | none =>
          rw [e2] at e'
          cases e'
        | some ks' =>
          rw [e2] at e'
          obtain rfl := Option.some.inj e'
          exact .cons (reads_nest d _ _ k r1 e1) (reads_nestAll ds _ _ ks' r2 e2)
end
end DR

namespace DR
open PySem PySem.Spec PyProof.Rows L2
section
variable {prog : Program} {w : World} {A : Around} {E : Value → Shared → Prop} {s : Shared}
theorem nest_keep {h h' : Heap} {zs : List (NestedKey × Value × Value)} (k : ∀ b o, h.get? b = some o → h'.get? b = some o) (his : ∀ z ∈ zs, NestedIs h z.1 z.2.1 ∧ z.1.depth ≤ 8) : ∀ z ∈ zs, (nestV prog w).is h' z.1 z.2.1 := fun z hz =>
  ⟨NestedIs.at (fun b o vs n e _ => k b o e) _ _ (his z hz).1, (his z hz).2⟩
/-- dict(xs): keys of every kind, the first one no text -/
theorem dict_argV {T : String} {a : Addr} {fp : List Addr} {n : Nat} {Rel : Nat → Value → Value → Prop} {OK : Heap → Prop} {zs : List (NestedKey × Value × Value)} {Q : Value → Shared → Prop} (P : PairArg prog w T a fp [] n Rel OK) (hh : A.handled = none) (hu : (nestV prog w).room A.in1.in1) (ok : OK s.heap)
    (hl : zs.length = n) (hc : ∀ i key v, Rel i key v → ∃ k, zs[i]? = some (k, key, v)) (his : ∀ z ∈ zs, NestedIs s.heap z.1 z.2.1 ∧ z.1.depth ≤ 8) (hn : (zs.map (·.1)).Nodup) (hfirst : ∀ z, zs[0]? = some z → isExactStrKey z.2.1 = false) (hsz : n < sizeLine)
    (h : ∀ h' tk, TabV (nestV prog w) h' s.heap.objs.size zs → (∀ b o, s.heap.get? b = some o → h'.get? b = some o) → Q (.ref s.heap.objs.size) { s with heap := h', toks := tk }) :
    wpAny (model prog w) A (call (.type "dict") [.ref a]) Q E s := by
  have old : ∀ b o, s.heap.get? b = some o → b ≠ s.heap.objs.size := fun b o e => Nat.ne_of_lt (Heap.lt_size e)
  refine call_dict_arg P ok fun s₁ hs₁ hdf ok₁ => ?_
  subst hs₁
  refine updateFrom_arg (A := A.in1) (Tab := fun i h => TabV (nestV prog w) h s.heap.objs.size (zs.take i) ∧ ∀ b o, s.heap.get? b = some o → h.get? b = some o) P .none hh ok₁ hdf ?_ ?_ ?_ ?_ ?_
  · exact ⟨⟨_, #[], 0, Heap.get?_push_size _ rfl, ⟨rfl, rfl, rfl⟩, rfl, by simp, fun x hx => by simp at hx, by simp⟩, fun b o e => Heap.get?_push_of_some _ e⟩
  · rintro i h ⟨⟨o, es, ep, ho, _⟩, _⟩
    exact Heap.lt_size ho
  · rintro i h h' wr' hd hw ⟨⟨o, es, ep, ho, hx, hdt, he, hi, hnd⟩, hk⟩ hk2
    have k3 : ∀ b o, s.heap.get? b = some o → h'.get? b = some o := fun b o e => hk2 b o (fun hm => by
      rcases hw b hm with q | q
      · simp at q
      · rw [Heap.get?_push_of_some _ e] at q
        cases q) (hk b o e)
    exact ⟨⟨o, es, ep, hk2 _ _ hd ho, hx, hdt, he, fun x hx => nest_keep k3 his x (List.mem_of_mem_take hx), hnd⟩, k3⟩
  · intro i key v s' Q' E' hi hrel tb _ hQ
    obtain ⟨tb1, tb2⟩ := tb
    obtain ⟨k, hz⟩ := hc i key v hrel
    have hi2 : i < zs.length := by omega
    have e : zs.take (i + 1) = zs.take i ++ [(k, key, v)] := by
      rw [List.take_add_one, hz]
      rfl
    refine setV (V := nestV prog w) hu (nest_keep tb2 his _ (List.mem_of_getElem? hz)) tb1 ?_ (fun hs => ?_) (fun h' t' sb => hQ h' _ ⟨by rw [e]; exact t', fun b o eb => sb.extBut b o (old b o eb) (tb2 b o eb)⟩ sb) ?_
    · have := take_not hn (i := i) (a := k) (by rw [List.getElem?_map, hz]; rfl)
      rw [← List.map_take] at this
      exact this
    · obtain ⟨z0, hz0⟩ : ∃ z, zs[0]? = some z := ⟨zs[0], List.getElem?_eq_getElem (by omega)⟩
      have h0 := hfirst z0 hz0
      cases i with
      | zero =>
        rw [hz] at hz0
        obtain rfl := Option.some.inj hz0
        rw [hs] at h0
        cases h0
      | succ i =>
        refine ⟨z0, ?_, h0⟩
        refine List.mem_of_getElem? (i := 0) ?_
        rw [List.getElem?_take]
        simp [hz0]
    · rw [List.length_take]
      omega
  · intro h' tk tb hk
    obtain ⟨tb1, tb2⟩ := tb
    have e : zs.take n = zs := List.take_of_length_le (Nat.le_of_eq hl)
    rw [e] at tb1
    exact ⟨rfl, h h' tk tb1 tb2⟩
end
end DR

namespace DR
open PySem PySem.Spec PyProof.Rows L2
/-! ### such a dict in the heap that is followed -/
abbrev Kvs := List (NestedKey × V × V)
abbrev KvR : NestedKey × V × V → NestedKey × Value × Value → Prop := fun p q => p.1 = q.1 ∧ L2.RelV p.2.1 q.2.1 ∧ L2.RelV p.2.2 q.2.2
def MapF (P : Program) (w : World) (d : Addr) (kvs : Kvs) (h : Heap) : Prop := ∃ xs : List (NestedKey × Value × Value), Paired KvR kvs xs ∧ (d == sysModules) = false ∧ ∃ o es ep, h.get? d = some o ∧ o.ExactDict ∧ o.data = .dict es ep ∧ es.toList = xs.map (entV (nestV P w)) ∧ (xs.map (·.1)).Nodup
def MapO (P : Program) (w : World) (d : Addr) (kvs : Kvs) : HO := .ext (MapF P w d kvs)
/-- a key that is known -/
def KeyV (K : PySem.W.Frag) (H : Hp) (y : V) (k : NestedKey) : Prop := ∃ d, Dp K H y d ∧ nkOf d = some k ∧ k.depth ≤ 8
def PairV (K : PySem.W.Frag) (H : Hp) (p : Addr) (kv : NestedKey × V × V) : Prop := SqT K H p [kv.2.1, kv.2.2] ∧ KeyV K H kv.2.1 kv.1
def rDictV (K : PySem.W.Frag) (P : Program) (w : World) : List V → Hp → VK → Prop := fun xs H Q => ∃ (a : Addr) (ps : List Addr) (kvs : Kvs), xs = [.ref a] ∧ SqL K H a (ps.map V.ref) ∧ Paired (PairV K H) ps kvs ∧ (kvs.map (·.1)).Nodup ∧ (∀ kv, kvs[0]? = some kv → ∃ b, kv.2.1 = .ref b) ∧ ps.length ≤ 1000 ∧
  ∀ p, H p = none → Q (.ref p) (upd H p (MapO P w p kvs))
section
variable {X : Cx} {pins : List (Addr × Obj)} {σ : L2.St} {H : Hp} {s : Shared}
theorem keyV_nest (I : Inv X pins σ H s) {y : V} {v : Value} {k : NestedKey} (h : KeyV X.K H y k) (r : L2.RelV y v) : NestedIs s.heap k v ∧ k.depth ≤ 8 := by
  obtain ⟨d, hd, e, hk⟩ := h
  obtain ⟨as, r1⟩ := Dp.reads I d y v hd r
  exact ⟨reads_nest d v as k r1 e, hk⟩
theorem pairsV_of (I : Inv X pins σ H s) : ∀ {ps : List Addr} {kvs : Kvs}, Paired (PairV X.K H) ps kvs →
    ∃ xs : List (NestedKey × Value × Value), Paired KvR kvs xs ∧ xs.length = ps.length ∧ ∀ (j : Nat) (q : NestedKey × Value × Value), xs[j]? = some q → ∃ p, ps[j]? = some p ∧ IsTup s.heap p #[q.2.1, q.2.2] ∧ NestedIs s.heap q.1 q.2.1 ∧ q.1.depth ≤ 8
  | _, _, .nil => ⟨[], .nil, rfl, fun j q e => by simp at e⟩
  | _, _, .cons (a := p) (b := kv) h t => by
    obtain ⟨xs, r, hl, hp⟩ := pairsV_of I t
    obtain ⟨hs, hk⟩ := h
    obtain ⟨its, rv, ht, _⟩ := I.tuple hs
    obtain ⟨u, y, ei, ru, ry⟩ := vals2 rv
    subst ei
    refine ⟨(kv.1, u, y) :: xs, .cons ⟨rfl, ru, ry⟩ r, by rw [List.length_cons, List.length_cons, hl], fun j q e => ?_⟩
    cases j with
    | zero =>
      have e' : (kv.1, u, y) = q := Option.some.inj e
      subst e'
      exact ⟨p, rfl, ht, keyV_nest I hk ru⟩
    | succ j =>
      obtain ⟨p', e1, e2, e3⟩ := hp j q (by simpa using e)
      exact ⟨p', by simpa using e1, e2, e3⟩
theorem kvr_keys : ∀ {kvs : Kvs} {xs : List (NestedKey × Value × Value)}, Paired KvR kvs xs → xs.map (·.1) = kvs.map (·.1)
  | _, _, .nil => rfl
  | _, _, .cons h t => by
    rw [List.map_cons, List.map_cons, kvr_keys t, h.1]
theorem kvr_at : ∀ {kvs : Kvs} {xs : List (NestedKey × Value × Value)}, Paired KvR kvs xs → ∀ {j : Nat} {q : NestedKey × Value × Value}, xs[j]? = some q → ∃ kv, kvs[j]? = some kv ∧ KvR kv q
  | _, _, .nil, j, q, e => by simp at e
  | _, _, .cons h t, 0, q, e => by
    obtain rfl := Option.some.inj (show some _ = some q from e)
    exact ⟨_, rfl, h⟩
  | _, _, .cons h t, j + 1, q, e => kvr_at t (j := j) e
theorem call_dictV {k : Nat} (hr : Room k X.A) (hcalm : X.calm = true) : CallR X (.type "dict") (rDictV X.K X.prog X.w) := by
  intro pins s σ H xs us Q I r q
  obtain ⟨a, ps, kvs, ex, hq, hp, nd, h0, few, q⟩ := q
  subst ex
  obtain ⟨u, eu, rx⟩ := vals1 r
  subst eu
  cases rx
  obtain ⟨its, rv, pl, hz⟩ := I.list hq
  have ei := refs_at rv
  subst ei
  obtain ⟨zs, rel, hl, hpr⟩ := pairsV_of I hp
  obtain ⟨o, n, ho, hc, hd, hdat⟩ := pl
  have nz : (zs.map (·.1)).Nodup := by
    rw [kvr_keys rel]
    exact nd
  have items : PySem.PairItems s.heap (ps.map Value.ref).toArray (fun j => ps.getD j 0) (zs.map fun z => (z.2.1, z.2.2)) := by
    refine ⟨by simp [hl], fun j kk v e => ?_⟩
    rw [List.getElem?_map] at e
    cases ez : zs[j]? with
    | none => rw [ez] at e; cases e
    | some z =>
      rw [ez] at e
      obtain ⟨rfl, rfl⟩ := Prod.mk.inj (Option.some.inj e)
      obtain ⟨p, e1, e2, e3⟩ := hpr j z ez
      have ed : ps.getD j 0 = p := by simp [e1]
      refine ⟨by simp [e1], ?_⟩
      show PairAt s.heap (ps.getD j 0) _ _
      rw [ed]
      obtain ⟨o', g1, g2, n', g3⟩ := e2
      exact .inl ⟨o', g1, g2, n', g3⟩
  refine dict_argV (zs := zs) (PySem.PairArg.list a (ps.map Value.ref).toArray (fun j => ps.getD j 0) (zs.map fun z => (z.2.1, z.2.2))) (I.ok.hd hcalm) ?_ ⟨⟨o, n, ho, hc, hd, hdat⟩, items⟩ (by simp) (fun i key v e => ?_) (fun z hz => ?_) nz (fun z hz => ?_) ?_ fun h' tk hd' k => ?_
  · have hu := hr.units
    show X.A.units + 1 + 1 + 8 < cLine
    omega
  · have e' : (zs.map fun z => (z.2.1, z.2.2))[i]? = some (key, v) := e
    rw [List.getElem?_map] at e'
    cases ez : zs[i]? with
    | none => rw [ez] at e'; cases e'
    | some z =>
      rw [ez] at e'
      obtain ⟨rfl, rfl⟩ := Prod.mk.inj (Option.some.inj e')
      exact ⟨z.1, rfl⟩
  · obtain ⟨j, hj⟩ := List.mem_iff_getElem?.mp hz
    obtain ⟨p, _, _, e3⟩ := hpr j z hj
    exact e3
  · obtain ⟨kv, hkv, r1, r2, r3⟩ := kvr_at rel hz
    obtain ⟨b, hb⟩ := h0 kv hkv
    rw [hb] at r2
    have ez : z.2.1 = Value.ref b := r2
    rw [ez]
    rfl
  · rw [List.length_map, hl]
    exact small1000 few
  · have hm : (s.heap.objs.size == sysModules) = false := beq_eq_false_iff_ne.mpr (Nat.ne_of_gt I.big)
    obtain ⟨od, es, ep, g1, g2, g3, g4, g5, g6⟩ := hd'
    have new : H s.heap.objs.size = none := I.hok.fresh (Nat.le_refl _)
    exact ⟨.ref s.heap.objs.size, upd H s.heap.objs.size (MapO X.prog X.w s.heap.objs.size kvs), I.laid (t' := tk) k (Nat.le_refl _) (show ObjOk X.prog X.w _ _ _ (.ext (MapF X.prog X.w s.heap.objs.size kvs)) from
      ⟨⟨zs, rel, hm, od, es, ep, g1, g2, g3, g4, g6⟩, ⟨od, g1⟩, fun h1 h2 ⟨ys, y1, y2, o', es', ep', y3, y4⟩ hk => ⟨ys, y1, y2, o', es', ep', hk _ y3, y4⟩⟩), rfl, q _ new⟩
end
end DR

namespace DR
open PySem PySem.Spec PyProof.Rows L2
/-! ### for k in such a dict, which stands still meanwhile -/
theorem kvr_get : ∀ {kvs : Kvs} {xs : List (NestedKey × Value × Value)}, Paired KvR kvs xs → ∀ {j : Nat} {kv : NestedKey × V × V}, kvs[j]? = some kv → ∃ q, xs[j]? = some q ∧ KvR kv q
  | _, _, .nil, j, q, e => by simp at e
  | _, _, .cons h t, 0, q, e => by
    obtain rfl := Option.some.inj (show some _ = some q from e)
    exact ⟨_, rfl, h⟩
  | _, _, .cons h t, j + 1, q, e => kvr_get t (j := j) e
section
variable {X : Cx} {pins : List (Addr × Obj)} {σ : L2.St} {H : Hp} {s : Shared} {d : Addr} {o : Obj} {kvs : Kvs}
theorem frzV (I : Inv X pins σ H s) (h : H d = some (.frz o (MapO X.prog X.w d kvs))) :
    (d == sysModules) = false ∧ s.heap.get? d = some o ∧ o.ExactDict ∧ ∃ (es : Array DictEntry) (ep : Nat), o.data = .dict es ep ∧ es.size = kvs.length ∧
      ∀ (i : Nat) (kv : NestedKey × V × V), kvs[i]? = some kv → ∃ en : DictEntry, es[i]? = some en ∧ L2.RelV kv.2.1 en.key := by
  obtain ⟨hd, ⟨xs, rel, hs, o', es, ep, ho, hx, hdt, he, _⟩, _⟩ := (show ObjOk X.prog X.w H s.heap d (.frz o (.ext (MapF X.prog X.w d kvs))) from I.hok d _ h)
  rw [hd] at ho
  cases ho
  refine ⟨hs, hd, hx, es, ep, hdt, ?_, fun i kv e => ?_⟩
  · rw [sizeV he]
    exact (Paired.length rel).symm
  · obtain ⟨q, hq, r1, r2, r3⟩ := kvr_get rel e
    refine ⟨entV (nestV X.prog X.w) q, ?_, r2⟩
    rw [entV_at he, hq]
    rfl
end
def ItV (P : Program) (w : World) (d : Addr) (o : Obj) (kvs : Kvs) : It :=
  ⟨fun i H => H d = some (.frz o (MapO P w d kvs)) ∧ i < kvs.length, fun i H x H' => H' = H ∧ ∃ k v, kvs[i]? = some (k, x, v), fun i H => H d = some (.frz o (MapO P w d kvs)) ∧ kvs.length ≤ i⟩
section
variable {P : Program} {w : World} {K : PySem.W.Frag} {tg : Expr} {d : Addr} {o : Obj} {es : Array DictEntry} {ep : Nat}
theorem turn_keysV {kvs : Kvs} (it : Addr) (hod : o.data = .dict es ep) : Turn P w K tg (ItV P w d o kvs) [it] it (fun i h => h.IsKeyIter it d i kvs.length ep) where
  mem := by simp
  obj := fun i h st b hb => by
    have e : b = it := by simpa using hb
    subst e
    obtain ⟨oi, e, c, dd⟩ := st
    exact ⟨oi, e, fun v z => by rw [dd] at z; cases z⟩
  keep := fun i h h' st k => st.at fun oi e => k it (by simp) oi e
  item := by
    intro X hP hw hK hc i pins s σ H E I hf st hg
    subst hP hw hK
    obtain ⟨hd, hi⟩ := hg
    obtain ⟨f0, f1, f2, f3, f4, f5⟩ := hf it (by simp)
    obtain ⟨hs, hgd, hx, es', ep', hdt, hsz, ent⟩ := frzV I hd
    obtain ⟨rfl, rfl⟩ := dict_ep hod hdt
    obtain ⟨⟨k, y, v⟩, hkv⟩ : ∃ p, kvs[i]? = some p := ⟨kvs[i], List.getElem?_eq_getElem hi⟩
    obtain ⟨en, hen, hkey⟩ := ent i _ hkv
    refine next_key_item st hgd hdt hsz hen fun h' st' sb => ?_
    have I1 : Inv X pins σ H { s with heap := h' } := I.turned (t' := s.toks) (fun b ob hb e => (sb.2 b hb).trans e) f0 f1 f3 f4 f5
    obtain ⟨oi, e, c, dd⟩ := id st'
    exact ⟨en.key, rfl, go_of (s := { s with heap := h' }) e c dd (by decide) ⟨y, H, I1, hkey, ⟨rfl, k, v, hkv⟩, st', fun b hb => (hf b hb).1⟩⟩
  done := by
    intro X hP hw hK hc i pins s σ H E I hf st hg
    subst hP hw hK
    obtain ⟨hd, hi⟩ := hg
    obtain ⟨f0, f1, f2, f3, f4, f5⟩ := hf it (by simp)
    obtain ⟨hs, hgd, hx, es', ep', hdt, hsz, ent⟩ := frzV I hd
    obtain ⟨rfl, rfl⟩ := dict_ep hod hdt
    exact next_key_end (I.ok.hd hc) st hgd hdt hsz hi fun h' eb => ⟨rfl, I.turned (t' := s.toks) (fun b ob hb e => eb b ob hb e) f0 f1 f3 f4 f5⟩
  self := fun A i s Q E st h => by
    refine wpAny_pyIter_slot st.typeIs F.slot_dict_keyiterator_iter (wpAny_call_entry F.slot_dict_keyiterator_iter st.typeIs F.entry_dict_keyiterator_iter ?_ (F.args_dict_keyiterator_iter_1 _))
    show wpAny _ _ (ret (.ref it)) _ _ s
    exact wpAny_pure ⟨_, rfl, "dict_keyiterator", _, st.typeIs, F.slot_dict_keyiterator_next.lookup, h⟩
end
def iKeysV (P : Program) (w : World) (td : TE) : TI := fun σ H R => td σ H fun x H1 => ∃ d o kvs, x = .ref d ∧ H1 d = some (.frz o (MapO P w d kvs)) ∧ R (ItV P w d o kvs) H1
theorem pi_keysV {X : Cx} {tg e : Expr} {td : TE} (he : PE X e td) : PI X tg e (iKeysV X.prog X.w td) := by
  refine ⟨fun pins s σ H R I h => ?_⟩
  refine thn (he.run pins s σ H _ I h) fun u s1 ⟨x, H1, I1, rx, d, o, kvs, ex, hd, q⟩ => ?_
  subst ex
  obtain rfl : u = Value.ref d := rx
  obtain ⟨hs, hgd, hx, es, ep, hdt, hsz, ent⟩ := frzV I1 hd
  refine iter_keys hs hgd hx hdt (pi_one (tk := s1.toks) I1 _ (turn_keysV _ hdt) ⟨_, Heap.get?_push_size _ rfl, rfl, ?_⟩ q)
  rw [hsz] <;> rfl
theorem walk_keysV {P : Program} {w : World} {d : Addr} {o : Obj} {kvs : Kvs} : Walk (ItV P w d o kvs) kvs.length (fun H => H d = some (.frz o (MapO P w d kvs))) (fun i H x H' => H' = H ∧ ∃ k v, kvs[i]? = some (k, x, v)) :=
  ⟨fun _ _ hi hG => ⟨hG, hi⟩, fun _ hG => ⟨hG, Nat.le_refl _⟩, fun _ _ _ _ _ _ y => y⟩
end DR

namespace DR
open PySem PySem.Spec PyProof.Rows L2
/-! ### isinstance of such a dict, and what stands at a key -/
def VAt (P : Program) (w : World) (H : Hp) (d : Addr) (kvs : Kvs) : Prop := Rd H d (MapO P w d kvs)
section
variable {X : Cx} {pins : List (Addr × Obj)} {σ : L2.St} {H : Hp} {s : Shared} {d : Addr} {kvs : Kvs} {A : Around} {E : Value → Shared → Prop}
theorem mapF_of (I : Inv X pins σ H s) (h : VAt X.prog X.w H d kvs) : MapF X.prog X.w d kvs s.heap := by
  rcases h with h | ⟨o, h⟩
  · exact (show ObjOk X.prog X.w H s.heap d (.ext (MapF X.prog X.w d kvs)) from I.hok d _ h).1
  · exact (show ObjOk X.prog X.w H s.heap d (.frz o (.ext (MapF X.prog X.w d kvs))) from I.hok d _ h).2.1
theorem tabV_of (I : Inv X pins σ H s) (h : VAt X.prog X.w H d kvs) (hk : ∀ kv ∈ kvs, KeyV X.K H kv.2.1 kv.1) : ∃ xs, Paired KvR kvs xs ∧ TabV (nestV X.prog X.w) s.heap d xs := by
  obtain ⟨xs, rel, hs, o, es, ep, ho, hx, hdt, he, hn⟩ := mapF_of I h
  refine ⟨xs, rel, o, es, ep, ho, hx, hdt, he, fun x hx => ?_, hn⟩
  obtain ⟨j, hj⟩ := List.mem_iff_getElem?.mp hx
  obtain ⟨kv, hkv, r1, r2, r3⟩ := kvr_at rel hj
  rw [← r1]
  exact keyV_nest I (hk kv (List.mem_of_getElem? hkv)) r2
theorem tabV_type {xs : List (NestedKey × Value × Value)} (h : TabV (nestV X.prog X.w) s.heap d xs) : s.TypeIs (.ref d) "dict" := by
  obtain ⟨o, es, ep, ho, hc, _⟩ := h
  exact ⟨o, ho, hc.1⟩
theorem getItemV {key : Value} {xs : List (NestedKey × Value × Value)} {k : NestedKey} {i : Nat} {p : Value × Value} {Q : Value → Shared → Prop} (hu : (nestV X.prog X.w).room A.in1) (hkey : (nestV X.prog X.w).is s.heap k key) (hm : TabV (nestV X.prog X.w) s.heap d xs) (hi : xs[i]? = some (k, p))
    (hs : isExactStrKey key = true → ∃ x ∈ xs, isExactStrKey x.2.1 = false) (h : Q p.2 { s with toks := s.toks + k.draws }) : wpAny (model X.prog X.w) A (getItem (.ref d) key) Q E s := by
  have ht := tabV_type hm
  unfold getItem
  try with_reducible refine wpAny_holding ?_
  refine wpAny_bind (wpAny_sequenceKey ht (by decide) ?_)
  refine wpAny_bind (wpAny_callSpecial?_slot (name := Str.ofString "__getitem__") ht PySem.F.slot_dict_getitem
    (wpAny_call_entry PySem.F.slot_dict_getitem ht PySem.F.entry_dict_getitem ?_ (PySem.F.args_dict_getitem_2 _ _)))
  show wpAny _ _ (dictGet d key >>= _) _ _ s
  refine wpAny_bind (getV hu hkey hm hi hs ?_)
  exact wpAny_pure ⟨p.2, rfl, wpAny_pure h⟩
end
def tDGetV (K : PySem.W.Frag) (P : Program) (w : World) (td ty : TE) : TE := fun σ H Q => td σ H fun x H1 => ty σ H1 fun y H2 => ∃ (d : Addr) (kvs : Kvs) (k : NestedKey) (i : Nat) (y' v : V), x = .ref d ∧ VAt P w H2 d kvs ∧ (∀ kv ∈ kvs, KeyV K H2 kv.2.1 kv.1) ∧ (∀ kv, kvs[0]? = some kv → ∃ b, kv.2.1 = .ref b) ∧
  kvs[i]? = some (k, y', v) ∧ KeyV K H2 y k ∧ Q v H2
theorem pe_dgetV {X : Cx} {o i : Expr} {td ty : TE} {pos : Pos} {n : Nat} (hr : Room n X.A) (ho : PE X o td) (hi : PE X i ty) (hs : NoSl i) : PE X (.Subscript o i pos) (tDGetV X.K X.prog X.w td ty) := by
  refine ⟨fun pins s σ H Q I h => ?_⟩
  refine subD_of PySem.F.slot_dict_getitem.lookup hs (thn (ho.run pins s σ H _ I h) fun u s1 ⟨x, H1, I1, rx, q1⟩ => thn (hi.run pins s1 σ H1 _ I1 q1) fun iv s2 ⟨y, H2, I2, ry, d, kvs, k, j, y', v, ex, hv, hk, h0, hj, hky, q2⟩ => ?_)
  subst ex
  obtain rfl : u = Value.ref d := rx
  obtain ⟨xs, rel, tab⟩ := tabV_of I2 hv hk
  obtain ⟨⟨k', p⟩, hq, r1, r2, r3⟩ := kvr_get rel hj
  obtain rfl : k = k' := r1
  refine ⟨tabV_type tab, getItemV (by have := hr.units; show X.A.units + 1 + 8 < cLine; omega) (keyV_nest I2 hky ry) tab hq (fun _ => ?_) ⟨v, H2, I2.tok _, r3, q2⟩⟩
  obtain ⟨kv0, hkv0⟩ : ∃ kv, kvs[0]? = some kv := ⟨kvs[0]'(Nat.lt_of_le_of_lt (Nat.zero_le _) (List.getElem?_eq_some_iff.mp hj).1), List.getElem?_eq_getElem _⟩
  obtain ⟨b, hb⟩ := h0 kv0 hkv0
  obtain ⟨q0, hq0, t1, t2, t3⟩ := kvr_get rel hkv0
  rw [hb] at t2
  have ez : q0.2.1 = Value.ref b := t2
  exact ⟨q0, List.mem_of_getElem? hq0, by rw [ez]; rfl⟩
end DR

namespace DR
open PySem PySem.Spec PyProof.Rows L2
def rIsiV (K : PySem.W.Frag) (P : Program) (w : World) : List V → Hp → VK → Prop := fun xs H Q => rIsi K xs H Q ∨ ∃ (d : Addr) (kvs : Kvs) (c : V) (u : Value) (b : Bool), xs = [.ref d, c] ∧ ClsV c u ∧ VAt P w H d kvs ∧ PySem.W.kitOne K (.type "dict") u = some b ∧ Q (.bl b) H
theorem call_isiV {X : Cx} : CallR X (.builtin "isinstance") (rIsiV X.K X.prog X.w) := by
  intro pins s σ H xs us Q I r h
  rcases h with h | ⟨d, kvs, c, u, b, rfl, k, hv, e, q⟩
  · exact call_isi pins s σ H xs us Q I r h
  · obtain ⟨u1, u2, rfl, r1, r2⟩ := vals2 r
    have e2 := k.eq r2
    subst e2
    obtain rfl : u1 = Value.ref d := r1
    obtain ⟨_, _, _, o, _, _, ho, hx, _⟩ := mapF_of I hv
    exact PySem.W.kia_one PySem.W.kitx_dict I.kIn ⟨o, ho, hx.1⟩ e (fun z => nomatch z) fun tk => ⟨.bl b, H, I.tok tk, rfl, q⟩
end DR

namespace DR
open PySem PySem.Spec PyProof.Rows L2
/-! ### data stays while all but such a dict stays -/
/-- all but what stands at D stays, and there stands neither a list nor a tuple -/
structure ButD (D : Addr) (H H' : Hp) : Prop where
  keep : ∀ b x, b ≠ D → H b = some x → H' b = some x
  noL : ∀ xs, ¬ Rd H D (.lst xs)
  noT : ∀ xs, ¬ Rd H D (.tup xs)
  noD : ∀ kvs, H D ≠ some (.dK kvs)
theorem rd_but {H H' : Hp} {D a : Addr} {u : HO} (e : ButD D H H') (n : a ≠ D) (h : Rd H a u) : Rd H' a u := by
  rcases h with h | ⟨o, h⟩
  · exact .inl (e.keep _ _ n h)
  · exact .inr ⟨o, e.keep _ _ n h⟩
theorem sqL_but {K : PySem.W.Frag} {H H' : Hp} {D a : Addr} {xs : List V} (e : ButD D H H') (h : SqL K H a xs) : SqL K H' a xs := by
  rcases h with h | h
  · exact .inl (rd_but e (fun z => e.noL xs (z ▸ h)) h)
  · exact .inr h
theorem sqT_but {K : PySem.W.Frag} {H H' : Hp} {D a : Addr} {xs : List V} (e : ButD D H H') (h : SqT K H a xs) : SqT K H' a xs := by
  rcases h with h | h
  · exact .inl (rd_but e (fun z => e.noT xs (z ▸ h)) h)
  · exact .inr h
mutual
theorem dp_but {K : PySem.W.Frag} {H H' : Hp} {D : Addr} (e : ButD D H H') : ∀ {v : V} {d : PyData}, Dp K H v d → Dp K H' v d
  | _, _, .non => .non
  | _, _, .bl b => .bl b
  | _, _, .int i => .int i
  | _, _, .str x => .str x
  | _, _, .lst s a => .lst (sqL_but e s) (dps_but e a)
  | _, _, .tup s a => .tup (sqT_but e s) (dps_but e a)
theorem dps_but {K : PySem.W.Frag} {H H' : Hp} {D : Addr} (e : ButD D H H') : ∀ {vs : List V} {ds : List PyData}, DpAll K H vs ds → DpAll K H' vs ds
  | _, _, .nil => .nil
  | _, _, .cons h t => .cons (dp_but e h) (dps_but e t)
end
theorem th_but {K : PySem.W.Frag} {H H' : Hp} {D : Addr} (e : ButD D H H') {v : V} {d : PyData} : Th K H v d → Th K H' v d
  | .dat h => .dat (dp_but e h)
  | .dct h => .dct (e.keep _ _ (fun z => e.noD _ (z ▸ h)) h)
theorem keyV_but {K : PySem.W.Frag} {H H' : Hp} {D : Addr} (e : ButD D H H') {y : V} {k : NestedKey} (h : KeyV K H y k) : KeyV K H' y k := by
  obtain ⟨d, h1, h2⟩ := h
  exact ⟨d, dp_but e h1, h2⟩
theorem but_map {P : Program} {w : World} {H H' : Hp} {D : Addr} {kvs : Kvs} (h : VAt P w H D kvs) (k : ∀ b x, b ≠ D → H b = some x → H' b = some x) : ButD D H H' := by
  refine ⟨k, fun xs z => ?_, fun xs z => ?_, fun l z => ?_⟩
  · rcases h with h | ⟨o, h⟩ <;> rcases z with z | ⟨o', z⟩ <;> · rw [h] at z; cases z
  · rcases h with h | ⟨o, h⟩ <;> rcases z with z | ⟨o', z⟩ <;> · rw [h] at z; cases z
  · rcases h with h | ⟨o, h⟩ <;> · rw [h] at z; cases z
end DR

namespace DR
open PySem PySem.Spec PyProof.Rows L2
/-! ### read_worths -/
def WR (K : PySem.W.Frag) (H : Hp) (kv : NestedKey × V × V) (d : PyData × PyData) : Prop := Dp K H kv.2.1 d.1 ∧ nkOf d.1 = some kv.1 ∧ kv.1.depth ≤ 8 ∧ shortP d.1 ∧ Th K H kv.2.2 d.2 ∧ okSum d.2
abbrev Go := List Key × Int × Mul
def GoodW (d : PyData × PyData) (g : Go) : Prop := readUnk d.1 = some g.1 ∧ readSum d.2 = some g.2
abbrev SumG (H : Hp) (v : V) (g : Go) : Prop := SumT H v g.2.1 g.2.2
def fkOf (gs : List Go) (vs : List V) : List (List Key × V) := (gs.zip vs).map fun p => (p.1.1, p.2)
theorem wr_but {K : PySem.W.Frag} {H H' : Hp} {D : Addr} (e : ButD D H H') {kv : NestedKey × V × V} {d : PyData × PyData} (h : WR K H kv d) : WR K H' kv d := ⟨dp_but e h.1, h.2.1, h.2.2.1, h.2.2.2.1, th_but e h.2.2.2.2.1, h.2.2.2.2.2⟩
theorem putK_new {l : List (List Key × V)} {u : List Key} (v : V) (h : u ∉ l.map (·.1)) : putK l u v = l ++ [(u, v)] := by
  unfold putK
  rw [if_neg]
  intro z
  obtain ⟨p, hp, e⟩ := List.any_eq_true.mp z
  exact h (List.mem_map.mpr ⟨p, hp, of_decide_eq_true e⟩)
theorem fk_keys {gs : List Go} {vs : List V} (h : vs.length = gs.length) : (fkOf gs vs).map (·.1) = gs.map (·.1) := by
  unfold fkOf
  rw [List.map_map]
  induction gs generalizing vs with
  | nil => rfl
  | cons g gs ih =>
    cases vs with
    | nil => cases h
    | cons v vs => rw [List.zip_cons_cons, List.map_cons, List.map_cons, ih (by simpa using h)]; rfl
theorem fk_snoc {gs : List Go} {vs : List V} (h : vs.length = gs.length) (g : Go) (v : V) : fkOf (gs ++ [g]) (vs ++ [v]) = fkOf gs vs ++ [(g.1, v)] := by
  unfold fkOf
  rw [List.zip_append h.symm, List.map_append]
  rfl
theorem kit_dd {K : PySem.W.Frag} : PySem.W.kitOne K (.type "dict") (.type "dict") = some true := by
  show kitB "dict" "dict" = some true
  decide +kernel
def spReadW (K : PySem.W.Frag) (P : Program) (w : World) (CW : Addr) : Sp := fun vs H Q E => ∃ v, vs = [v] ∧
  ((∃ d, Th K H v d ∧ PySem.W.kitOne K (.type (tyN d)) (.type "dict") = some false ∧ ∀ dx, H dx = none → E (.ref CW) (some dx) (upd H dx (.xd [("key", .non)]))) ∨
   ∃ (D : Addr) (kvs : Kvs) (ds : List (PyData × PyData)), v = .ref D ∧ H D = some (MapO P w D kvs) ∧ PySem.W.EachIs (WR K H) kvs ds ∧ (∀ kv, kvs[0]? = some kv → ∃ b, kv.2.1 = .ref b) ∧ kvs.length ≤ 20 ∧ (∀ i gs, PySem.W.EachIs GoodW (ds.take i) gs → (gs.map (·.1)).Nodup) ∧
     (∀ i kv d gs, kvs[i]? = some kv → ds[i]? = some d → PySem.W.EachIs GoodW (ds.take i) gs → (readUnk d.1 = none ∨ readSum d.2 = none) → ∀ H' dx, (∀ b x, b ≠ D → H b = some x → H' b = some x) → H' dx = none → E (.ref CW) (some dx) (upd H' dx (.xd [("key", kv.2.1)]))) ∧
     ∀ gs, PySem.W.EachIs GoodW ds gs → ∀ H' F fs, Same H H' → H' F = some (.dT (fkOf gs fs)) → PySem.W.EachIs (SumG H') fs gs → Q (.ref F) H')
abbrev sReadW : Stmt := topS 22
theorem scReadW : FnScope ["worths", "found", "key", "unknown", "worth"] ["worths"] (defScope sReadW) := ⟨rfl, rfl, rfl, by decide +kernel, rfl, by decide +kernel, by decide +kernel⟩
section
variable {P : Program} {w : World} {K : PySem.W.Frag} {mg : Str → Option Value} {base : Heap}
theorem ok_readW {f CW : Addr} {fd : FuncData} (F : Fun K "read_worths" "read_worths" sReadW f fd) (T : Bi mg) (S : Err P w K mg base "BadWorths" CW "key") (G1 : Has P w K mg base CX0 4 "read_unknown" ["thing"] (spReadUnk K)) (G2 : Has P w K mg base CX0 4 "read_sum" ["thing"] (spReadSum K)) :
    FnOk P w K mg base (L2.CX P w) 5 f fd ["worths"] (spReadW K P w CW) := by
  refine F.okX scReadW (fun vs H Q E h => ?_) (fun cdv A outer s H vs Q E hr h => ?_)
  · obtain ⟨v, rfl, _⟩ := h
    rfl
  · obtain ⟨v, rfl, h⟩ := h
    have hu := hu_of hr
    refine ⟨_, (pss_cons (ps_if (pt_not (pt_val (pe_callB call_isiV (by rfl) T.isinstance (by decide +kernel) (pa_cons (pv 0) (pa_cons (pe_bltn (v := .ty "dict") (by rfl) T.dict (by decide +kernel) rfl) pa_nil))))) (pss_one (ps_err rfl (takes_of rfl rfl rfl rfl) S hr (by decide) pe_non)) pss_nil)
      (pss_cons (ps_set (i := 1) scReadW.nd rfl (.inl rfl) (pe_dnewT))
      (pss_cons (ps_lock (ps_for (passes_of rfl) rfl (pi_keysV (pv 0)) (pg_name (i := 2) scReadW.nd rfl (.inl rfl)) (pss_cons (ps_set (i := 3) scReadW.nd rfl (.inl rfl) (pe_callH G1 hr (by rfl) pass0 (pa_cons (pv 2) pa_nil)))
        (pss_cons (ps_set (i := 4) scReadW.nd rfl (.inl rfl) (pe_callH G2 hr (by rfl) pass0 (pa_cons (pe_dgetV hr (pv 0) (pv 2) (fun _ _ => rfl)) pa_nil)))
        (pss_cons (ps_if (PW.pt (pw_or (pt_cmpR op_isN (pv 3) pe_non (nomark _)) (pw_or1 (pt_cmpR op_isN (pv 4) pe_non (nomark _))))) (pss_one (ps_err rfl (takes_of rfl rfl rfl rfl) S hr (by decide) (pv 2))) pss_nil)
        (pss_one (ps_dput hu (pv 1) (pv 3) (pv 4) rfl)))))))
      (pss_one (ps_ret (pv 1)))))), ?_⟩
    rcases h with ⟨d, th, nd, qe⟩ | ⟨D, kvs, ds, rfl, hD, hw, h0, few, hnod, qe, q⟩
    · refine ⟨_, rfl, .inl ⟨v, _, _, _, _, rfl, .ty "dict", th_ty th, nd, _, rfl, iteT (err_go fun dx hdx => qe dx hdx)⟩⟩
    · refine ⟨_, rfl, .inr ⟨D, kvs, _, _, _, rfl, .ty "dict", .inl hD, kit_dd, _, rfl, iteF fun F0 hF => ?_⟩⟩
      have sF := same_new (o := .dT []) hF
      have FD : F0 ≠ D := (ne_of_none hD hF).symm
      have hD1 := sF _ _ hD
      have hF1 : upd H F0 (.dT []) F0 = some (.dT []) := upd_same
      generalize upd H F0 (.dT []) = H1 at sF hD1 hF1 ⊢
      refine ⟨D, _, hD1, trivial, fun od => ⟨_, rfl, D, od, kvs, rfl, upd_same, ?_⟩⟩
      have lk : kvs.length = ds.length := hw.length
      have kl : ∀ b x, b ≠ D → H b = some x → upd H1 D (.frz od (MapO P w D kvs)) b = some x := fun b x hb e => by
        rw [upd_ne hb]
        exact sF _ _ e
      have hDl : upd H1 D (.frz od (MapO P w D kvs)) D = some (.frz od (MapO P w D kvs)) := upd_same
      have hFl : upd H1 D (.frz od (MapO P w D kvs)) F0 = some (.dT []) := by
        rw [upd_ne FD]
        exact hF1
      have back : ∀ {H4 : Hp}, (∀ b x, b ≠ F0 → upd H1 D (.frz od (MapO P w D kvs)) b = some x → H4 b = some x) → Same H (upd H4 D (MapO P w D kvs)) := fun {H4} kp b x e => by
        by_cases hb : b = D
        · rw [hb] at e ⊢
          rw [upd_same]
          exact hD.symm.trans e
        · rw [upd_ne hb]
          exact kp b x (ne_of_none e hF) (kl b x hb e)
      refine for_it walk_keysV (fun i σ H4 => ∃ (w2 w3 w4 : Option V) (gs : List Go) (fs : List V), σ = [some (.ref D), some (.ref F0), w2, w3, w4] ∧ (∀ b x, b ≠ F0 → upd H1 D (.frz od (MapO P w D kvs)) b = some x → H4 b = some x) ∧ H4 F0 = some (.dT (fkOf gs fs)) ∧ PySem.W.EachIs GoodW (ds.take i) gs ∧ PySem.W.EachIs (SumG H4) fs gs ∧ gs.length = i)
        ⟨none, none, none, [], [], rfl, fun b x _ e => e, hFl, .nil, .nil, rfl⟩ (fun i σ H4 _ ⟨_, _, _, _, _, _, kp, _⟩ => kp _ _ FD.symm hDl) ?_ ?_
      · rintro i y σ H4 H4' hi ⟨w2, w3, w4, gs, fs, rfl, kp, hF4, hg, hsg, hlen⟩ ⟨rfl, k, v, hkv⟩
        obtain ⟨d, hd, hwr⟩ := eachs_get hw hkv
        have k4 : ∀ b x, b ≠ D → H b = some x → H4' b = some x := fun b x hb e => kp b x (ne_of_none e hF) (kl b x hb e)
        have B4 : ButD D H H4' := but_map (P := P) (w := w) (.inl hD) k4
        have hwr4 := wr_but B4 hwr
        have hD4 := kp _ _ FD.symm hDl
        have lfs : fs.length = gs.length := hsg.length
        refine ⟨_, rfl, y, d.1, rfl, .dat hwr4.1, hwr4.2.2.2.1, fun v3 H5 s5 h3 => ?_⟩
        have hwr5 : ∀ kv ∈ kvs, KeyV K H5 kv.2.1 kv.1 := fun kv hm => by
          obtain ⟨j, hj⟩ := List.mem_iff_getElem?.mp hm
          obtain ⟨d', _, hw'⟩ := eachs_get hw hj
          have := wr_but B4 hw'
          exact ⟨d'.1, dp_same s5 this.1, this.2.1, this.2.2.1⟩
        refine ⟨_, rfl, _, rfl, D, kvs, k, i, y, v, rfl, .inr ⟨od, s5 _ _ hD4⟩, hwr5, h0, hkv, hwr5 _ (List.mem_of_getElem? hkv), ?_⟩
        refine ⟨v, d.2, rfl, th_same s5 hwr4.2.2.2.2.1, hwr4.2.2.2.2.2, fun v4 H6 s6 h4 => ?_⟩
        have s56 := s5.trans s6
        have k6 : ∀ b x, b ≠ D → H b = some x → H6 b = some x := fun b x hb e => s56 _ _ (k4 b x hb e)
        refine ⟨_, rfl, rfl, _, rfl, ?_⟩
        cases e3 : readUnk d.1 with
        | none =>
          rw [e3] at h3
          obtain rfl : v3 = .non := h3
          exact iteT ⟨_, rfl, err_go fun dx hdx => qe i _ d gs hkv hd hg (.inl e3) H6 dx k6 hdx⟩
        | some u =>
          rw [e3] at h3
          obtain ⟨a3, rfl, ha3⟩ := h3
          refine iteF ⟨_, rfl, rfl, _, rfl, ?_⟩
          cases e4 : readSum d.2 with
          | none =>
            rw [e4] at h4
            obtain rfl : v4 = .non := h4
            exact iteT ⟨_, rfl, err_go fun dx hdx => qe i _ d gs hkv hd hg (.inr e4) H6 dx k6 hdx⟩
          | some r =>
            obtain ⟨n, ps⟩ := r
            rw [e4] at h4
            have h4' : SumT H6 v4 n ps := h4
            rw [sumT_not_non h4']
            have hF6 := s56 _ _ hF4
            have gg : PySem.W.EachIs GoodW (ds.take (i + 1)) (gs ++ [(u, n, ps)]) := by
              rw [List.take_add_one, hd]
              exact eachs_snoc (R := GoodW) ⟨e3, e4⟩ hg
            have nd := hnod (i + 1) _ gg
            have nu : u ∉ (fkOf gs fs).map (·.1) := by
              rw [fk_keys lfs]
              rw [List.map_append] at nd
              intro z
              exact (List.nodup_append.mp nd).2.2 u z u (by simp) rfl
            have lk2 : (fkOf gs fs).length = i := by
              unfold fkOf
              rw [List.length_map, List.length_zip, lfs, Nat.min_self, hlen]
            refine iteF ⟨_, rfl, _, rfl, _, rfl, F0, _, rfl, DPut.t hF6 (s6 _ _ ha3) (by
              rw [lk2]
              exact small1000 (by omega)), ?_⟩
            rw [putK_new _ nu, ← fk_snoc lfs (u, n, ps) v4]
            have ts : TupS H6 (upd H6 F0 (.dT (fkOf (gs ++ [(u, n, ps)]) (fs ++ [v4])))) := TupS.put hF6 (by intro xs z; cases z)
            refine ⟨_, _, _, gs ++ [(u, n, ps)], fs ++ [v4], rfl, fun b x hb e => ?_, upd_same, gg, eachs_snoc (R := SumG _) (sumT_s ts h4') (eachs_imp (fun v g h => sumT_s ((TupS.of s56).trans ts) h) hsg), by simp [hlen]⟩
            rw [upd_ne hb]
            exact s56 _ _ (kp b x hb e)
      · rintro σ H4 ⟨w2, w3, w4, gs, fs, rfl, kp, hF4, hg, hsg, hlen⟩
        rw [lk, List.take_length] at hg
        refine ⟨kp _ _ FD.symm hDl, _, rfl, ?_⟩
        refine q gs hg _ F0 fs (back kp) ?_ ?_
        · rw [upd_ne FD]
          exact hF4
        · refine eachs_imp (fun v g h => sumT_s ?_ h) hsg
          exact TupS.put (kp _ _ FD.symm hDl) (by intro xs z; cases z)
end
end DR

namespace DR
open PySem PySem.Spec PyProof.Rows L2
/-! ### put_in -/
def spPutIn (K : PySem.W.Frag) (P : Program) (w : World) (CS CW : Addr) : Sp := fun vs H Q E => ∃ v u d, vs = [v, u] ∧ Th K H v d ∧ okSum d ∧ (readSum d = none → NoSum CS H v E) ∧
  ∀ n ps, readSum d = some (n, ps) → ∀ H1 v1, Same H H1 → SumT H1 v1 n ps → spReadW K P w CW [u] H1 (fun f H2 => spWith K [v1, f] H2 Q E0) E
abbrev sPutIn : Stmt := topS 24
theorem scPutIn : FnScope ["one", "worths", "found"] ["one", "worths"] (defScope sPutIn) := ⟨rfl, rfl, rfl, by decide +kernel, rfl, by decide +kernel, by decide +kernel⟩
section
variable {P : Program} {w : World} {K : PySem.W.Frag} {mg : Str → Option Value} {base : Heap}
theorem ok_putIn {f CS CW : Addr} {fd : FuncData} (F : Fun K "put_in" "put_in" sPutIn f fd) (G1 : Has P w K mg base (L2.CX P w) 6 "sum_of" ["thing"] (spSumOf K CS)) (G2 : Has P w K mg base (L2.CX P w) 6 "read_worths" ["worths"] (spReadW K P w CW)) (G3 : Has P w K mg base CX0 6 "with_worths" ["one", "worths"] (spWith K)) :
    FnOk P w K mg base (L2.CX P w) 7 f fd ["one", "worths"] (spPutIn K P w CS CW) := by
  refine F.okX scPutIn (fun vs H Q E h => ?_) (fun cdv A outer s H vs Q E hr h => ?_)
  · obtain ⟨v, u, d, rfl, _⟩ := h
    rfl
  · obtain ⟨v, u, d, rfl, th, ok, qe, q⟩ := h
    refine ⟨_, (pss_cons (ps_set (i := 2) scPutIn.nd rfl (.inl rfl) (pe_callH G1 hr (by rfl) (passE (E := E) (takes_of rfl rfl rfl rfl)) (pa_cons (pv 0) pa_nil)))
      (pss_one (ps_ret (pe_callH G3 hr (by rfl) pass0 (pa_cons (pv 2) (pa_cons (pe_callH G2 hr (by rfl) (passE (E := E) (takes_of rfl rfl rfl rfl)) (pa_cons (pv 1) pa_nil)) pa_nil)))))), ?_⟩
    refine ⟨_, rfl, v, d, rfl, th, ok, fun n ps e1 v1 H1 s1 h1 => ?_, qe⟩
    exact ⟨_, rfl, _, rfl, q n ps e1 H1 v1 s1 h1⟩
end
end DR

namespace DR
open PySem PySem.Spec PyProof.Rows L2
/-! ### what is handed in as a sum, read -/
theorem uk_perm {l' l : Mul} (p : l'.Perm l) (uk : ∀ u ∈ l.map (·.1), Uk u) : ∀ q ∈ l', Uk q.1 := fun q hq => uk _ (List.mem_map.mpr ⟨q, p.mem_iff.mp hq, rfl⟩)
theorem shape_read {d : PyData} {n : Int} {l : Mul} (h : Shape d n l) (uk : ∀ u ∈ l.map (·.1), Uk u) : readSum d = some (n, form (accAll l)) := by
  have go : ∀ (ds : List PyData) (l' : Mul), PySem.W.EachIs LP ds l' → l'.Perm l → (readParts ds []).map (fun kvs => (n, form kvs)) = some (n, form (accAll l)) := fun ds l' h1 h2 => by
    rw [parts_read ds l' [] h1 (uk_perm h2 uk)]
    show some (n, form (accAll l')) = _
    rw [acc_perm h2 fun u hu => by
      obtain ⟨q, hq, rfl⟩ := List.mem_map.mp hu
      exact (uk_perm h2 uk q hq).nm]
  rcases h with ⟨ds, l', rfl, h1, h2⟩ | ⟨ds, l', rfl, h1, h2⟩ | ⟨rfl, rfl⟩
  · exact go ds l' h1 h2
  · exact go ds l' h1 h2
  · show some (n, []) = _
    have e : form (accAll []) = [] := by simp [accAll, form, keysN]
    rw [e]
theorem each_mem_left {α β : Type} {R : α → β → Prop} : ∀ {as : List α} {bs : List β}, PySem.W.EachIs R as bs → ∀ a ∈ as, ∃ b ∈ bs, R a b
  | _, _, .nil, a, h => by simp at h
  | _, _, .cons (b := b) h t, a, ha => by
    rcases List.mem_cons.mp ha with rfl | ha
    · exact ⟨b, List.mem_cons_self .., h⟩
    · obtain ⟨b', h1, h2⟩ := each_mem_left t a ha
      exact ⟨b', List.mem_cons_of_mem _ h1, h2⟩
theorem shape_ok {d : PyData} {n : Int} {l : Mul} (h : Shape d n l) (uk : ∀ u ∈ l.map (·.1), Uk u) (few : l.length ≤ 5) : okSum d := by
  have go : ∀ (ds : List PyData) (l' : Mul), PySem.W.EachIs LP ds l' → l'.Perm l → ds.length ≤ 1000 ∧ ∀ p ∈ ds, okPart p := fun ds l' h1 h2 => by
    have e1 := h1.length
    have e2 := h2.length_eq
    refine ⟨by omega, fun p hp => ?_⟩
    obtain ⟨q, hq, hlp⟩ := each_mem_left h1 p hp
    exact okPart_LP hlp (uk_perm h2 uk q hq)
  intro n' q ds' e1 e2
  rcases h with ⟨ds, l', rfl, h1, h2⟩ | ⟨ds, l', rfl, h1, h2⟩ | ⟨rfl, rfl⟩
  · obtain rfl : q = .list ds := by
      have := Option.some.inj (show some [PyData.int n, .list ds] = some [.int n', q] from e1)
      exact (List.cons.inj (List.cons.inj this).2).1.symm
    obtain rfl := Option.some.inj (show some ds = some ds' from e2)
    exact go _ l' h1 h2
  · obtain rfl : q = .tuple ds := by
      have := Option.some.inj (show some [PyData.int n, .tuple ds] = some [.int n', q] from e1)
      exact (List.cons.inj (List.cons.inj this).2).1.symm
    obtain rfl := Option.some.inj (show some ds = some ds' from e2)
    exact go _ l' h1 h2
  · cases e1
end DR

namespace DR
open PySem PySem.Spec PyProof.Rows L2
theorem LP_pd {d : PyData} {q : List Key × Int} (h : LP d q) (u : Uk q.1) : d.plain = true ∧ d.depth ≤ 5 ∧ d.hasDict = false := by
  obtain ⟨k, o, e, _⟩ := u.nm
  rcases h with rfl | rfl
  · rw [e]
    cases o <;> simp [keyDat, PyData.plain, PyData.plainAll, PyData.depth, PyData.depthAll, PyData.hasDict, PyData.hasDictAll]
  · rw [e]
    cases o <;> simp [unkD, keyDat, PyData.plain, PyData.plainAll, PyData.depth, PyData.depthAll, PyData.hasDict, PyData.hasDictAll]
theorem LPs_pd : ∀ {ds : List PyData} {l : Mul}, PySem.W.EachIs LP ds l → (∀ q ∈ l, Uk q.1) → PyData.plainAll ds = true ∧ PyData.depthAll ds ≤ 5 ∧ PyData.hasDictAll ds = false
  | _, _, .nil, _ => ⟨rfl, by simp [PyData.depthAll], by simp [PyData.hasDictAll]⟩
  | _, _, .cons h t, hu => by
    obtain ⟨a1, a2, a3⟩ := LP_pd h (hu _ (List.mem_cons_self ..))
    obtain ⟨b1, b2, b3⟩ := LPs_pd t fun q hq => hu q (List.mem_cons_of_mem _ hq)
    refine ⟨by simp [PyData.plainAll, a1, b1], ?_, by simp [PyData.hasDictAll, a3, b3]⟩
    rw [PyData.depthAll]
    exact Nat.max_le.mpr ⟨a2, b2⟩
theorem shape_pd {d : PyData} {n : Int} {l : Mul} (h : Shape d n l) (uk : ∀ u ∈ l.map (·.1), Uk u) : d.plain = true ∧ d.depth ≤ 8 ∧ d.hasDict = false := by
  rcases h with ⟨ds, l', rfl, h1, h2⟩ | ⟨ds, l', rfl, h1, h2⟩ | ⟨rfl, rfl⟩
  · obtain ⟨a, b, c⟩ := LPs_pd h1 (uk_perm h2 uk)
    refine ⟨by simp [PyData.plain, PyData.plainAll, a], ?_, by simp [PyData.hasDict, PyData.hasDictAll, c]⟩
    simp only [PyData.depth, PyData.depthAll]
    omega
  · obtain ⟨a, b, c⟩ := LPs_pd h1 (uk_perm h2 uk)
    refine ⟨by simp [PyData.plain, PyData.plainAll, a], ?_, by simp [PyData.hasDict, PyData.hasDictAll, c]⟩
    simp only [PyData.depth, PyData.depthAll]
    omega
  · exact ⟨rfl, by simp [PyData.depth], rfl⟩
end DR

namespace DR
open PySem PySem.Spec PyProof.Rows L2
theorem show_int {i : Int} (h : Sz i) : (PyData.int i).showable = true := by
  simp only [PyData.showable]
  refine decide_eq_true ?_
  by_cases z : i.natAbs = 0
  · rw [z]
    decide
  · refine Nat.lt_of_lt_of_le ((Nat.log2_lt z).mpr h) (by decide)
theorem show_key (o : Key) (h : ∀ i, o = .inl i → Sz i) : (keyDat o).showable = true := by
  cases o with
  | inl i => exact show_int (h i rfl)
  | inr s => rfl
theorem menu_sz {u : List Key} (h : u ∈ menuU) : ∀ o ∈ u, ∀ i, o = .inl i → Sz i := by
  intro o ho i e
  subst e
  unfold menuU at h
  simp only [List.mem_cons, List.not_mem_nil, or_false] at h
  rcases h with rfl | rfl | rfl | rfl | rfl | rfl | rfl | rfl <;> simp only [List.mem_cons, List.not_mem_nil, or_false, Sum.inl.injEq, reduceCtorEq, false_or, or_self] at ho <;> (subst ho; unfold Sz; decide)
theorem LP_show {d : PyData} {q : List Key × Int} (h : LP d q) (u : Uk q.1) (m : Sz q.2) : d.showable = true := by
  obtain ⟨k, o, e, _⟩ := u.nm
  have ho : (keyDat o).showable = true := show_key o fun i hi => menu_sz u.mn o (by rw [e]; simp) i hi
  have hm := show_int m
  rcases h with rfl | rfl
  · rw [e]
    simp [PyData.showable, PyData.showableAll, keyDat] at ho hm ⊢
    exact ⟨ho, hm⟩
  · rw [e]
    simp [unkD, PyData.showable, PyData.showableAll, keyDat] at ho hm ⊢
    exact ⟨ho, hm⟩
theorem LPs_show : ∀ {ds : List PyData} {l : Mul}, PySem.W.EachIs LP ds l → (∀ q ∈ l, Uk q.1) → (∀ q ∈ l, Sz q.2) → PyData.showableAll ds = true
  | _, _, .nil, _, _ => rfl
  | _, _, .cons h t, hu, hm => by
    have a := LP_show h (hu _ (List.mem_cons_self ..)) (hm _ (List.mem_cons_self ..))
    have b := LPs_show t (fun q hq => hu q (List.mem_cons_of_mem _ hq)) fun q hq => hm q (List.mem_cons_of_mem _ hq)
    simp [PyData.showableAll, a, b]
theorem shape_show {d : PyData} {n : Int} {l : Mul} (h : Shape d n l) (uk : ∀ u ∈ l.map (·.1), Uk u) (hn : Sz n) (hl : ∀ q ∈ l, Sz q.2) : d.showable = true := by
  have hi := show_int hn
  rcases h with ⟨ds, l', rfl, h1, h2⟩ | ⟨ds, l', rfl, h1, h2⟩ | ⟨rfl, rfl⟩
  · have a := LPs_show h1 (uk_perm h2 uk) fun q hq => hl q (h2.mem_iff.mp hq)
    simp only [PyData.showable] at hi
    simp [PyData.showable, PyData.showableAll, a]
    simpa using hi
  · have a := LPs_show h1 (uk_perm h2 uk) fun q hq => hl q (h2.mem_iff.mp hq)
    simp only [PyData.showable] at hi
    simp [PyData.showable, PyData.showableAll, a]
    simpa using hi
  · exact hi
end DR

namespace DR
open PySem PySem.Spec PyProof.Rows L2
/-! ### how long such data is when shown -/
theorem len_nat {n k : Nat} (hk : 0 < k) (h : n < 10 ^ k) : (Str.ofString (toString n)).length ≤ k := by
  have h1 : ((n : Nat) : Int) < 10 ^ k := by exact_mod_cast h
  exact toString_length_le (v := (n : Int)) (Int.natCast_nonneg n) hk h1
theorem len_int {i : Int} (h : Sz i) : (PyData.int i).shown.length ≤ 70 := by
  have p : (2 : Nat) ^ 200 < 10 ^ 61 := by decide
  have h : i.natAbs < 2 ^ 200 := h
  simp only [PyData.shown]
  cases i with
  | ofNat n =>
    have := len_nat (n := n) (k := 61) (by decide) (by have : n < 2 ^ 200 := h; omega)
    show (Str.ofString (toString n)).length ≤ 70
    omega
  | negSucc n =>
    have := len_nat (n := n + 1) (k := 61) (by decide) (by have : n + 1 < 2 ^ 200 := h; omega)
    show (Str.ofString ("-" ++ toString (n + 1))).length ≤ 70
    rw [PyProof.Rows.ofString_length] at this ⊢
    simp only [String.toList_append, List.length_append] at this ⊢
    have e : ("-" : String).toList.length = 1 := rfl
    omega
theorem text_len : ∀ (ts : List Str) (k : Nat) (acc : Str), (textFrom k acc ts).length ≤ acc.length + piled ts
  | [], k, acc => by
    show acc.length ≤ _
    omega
  | t :: ts, k, acc => by
    have h := text_len ts (k + 1) (acc ++ (if k > 0 then ", " else "" : String) ++ t)
    have e : (acc ++ (if k > 0 then ", " else "" : String) ++ t).length ≤ acc.length + 2 + t.length := by
      rw [strLen_append, strLen_append]
      have : (((if k > 0 then ", " else "" : String) : Str)).length ≤ 2 := by split <;> decide
      omega
    rw [piled_cons]
    show (textFrom (k + 1) _ ts).length ≤ _
    omega
theorem list_len (ts : List Str) : (listText ts).length ≤ 2 + piled ts := by
  unfold listText
  rw [strLen_append]
  have h := text_len ts 0 "["
  have e1 : ((("[" : String) : Str)).length = 1 := rfl
  have e2 : ((("]" : String) : Str)).length = 1 := rfl
  omega
theorem tup_len (ts : List Str) : (tupleText ts).length ≤ 4 + piled ts := by
  unfold tupleText
  rw [strLen_append, strLen_append]
  have e1 : ((("(" : String) : Str)).length = 1 := rfl
  have e3 : (((if ts.length == 1 then ",)" else ")" : String) : Str)).length ≤ 2 := by split <;> decide
  by_cases h : ts = []
  · subst h
    have e4 : (Str.join ", " []).length = 0 := rfl
    omega
  · have := join_length_add ts h
    omega
theorem menu_len : ∀ u ∈ menuU, (PyData.list (u.map keyDat)).shown.length ≤ 40 ∧ (unkD u).shown.length ≤ 40 := by decide +kernel
theorem piled_two (a b : Str) : piled [a, b] = a.length + b.length + 4 := by
  simp [piled]
  omega
theorem LP_len {d : PyData} {q : List Key × Int} (h : LP d q) (u : Uk q.1) (m : Sz q.2) : d.shown.length ≤ 120 := by
  obtain ⟨h1, h2⟩ := menu_len q.1 u.mn
  have h3 := len_int m
  rcases h with rfl | rfl
  · have e : (PyData.list [.list (q.1.map keyDat), .int q.2]).shown = listText [(PyData.list (q.1.map keyDat)).shown, (PyData.int q.2).shown] := by simp only [PyData.shown, PyData.shownAll]
    rw [e]
    have := list_len [(PyData.list (q.1.map keyDat)).shown, (PyData.int q.2).shown]
    rw [piled_two] at this
    omega
  · have e : (PyData.tuple [unkD q.1, .int q.2]).shown = tupleText [(unkD q.1).shown, (PyData.int q.2).shown] := by simp only [PyData.shown, PyData.shownAll]
    rw [e]
    have := tup_len [(unkD q.1).shown, (PyData.int q.2).shown]
    rw [piled_two] at this
    omega
theorem LPs_len : ∀ {ds : List PyData} {l : Mul}, PySem.W.EachIs LP ds l → (∀ q ∈ l, Uk q.1) → (∀ q ∈ l, Sz q.2) → piled (PyData.shownAll ds) ≤ 122 * l.length
  | _, _, .nil, _, _ => by simp [PyData.shownAll, piled]
  | _, _, .cons h t, hu, hm => by
    have a := LP_len h (hu _ (List.mem_cons_self ..)) (hm _ (List.mem_cons_self ..))
    have b := LPs_len t (fun q hq => hu q (List.mem_cons_of_mem _ hq)) fun q hq => hm q (List.mem_cons_of_mem _ hq)
    simp only [PyData.shownAll]
    rw [piled_cons, List.length_cons]
    omega
theorem shape_len {d : PyData} {n : Int} {l : Mul} (h : Shape d n l) (uk : ∀ u ∈ l.map (·.1), Uk u) (hn : Sz n) (hl : ∀ q ∈ l, Sz q.2) (few : l.length ≤ 5) : d.shown.length ≤ 800 := by
  have hi := len_int hn
  rcases h with ⟨ds, l', rfl, h1, h2⟩ | ⟨ds, l', rfl, h1, h2⟩ | ⟨rfl, rfl⟩
  · have a := LPs_len h1 (uk_perm h2 uk) fun q hq => hl q (h2.mem_iff.mp hq)
    have e := h2.length_eq
    have b := list_len (PyData.shownAll ds)
    have c := tup_len [(PyData.int n).shown, listText (PyData.shownAll ds)]
    rw [piled_two] at c
    simp only [PyData.shown, PyData.shownAll] at c hi ⊢
    omega
  · have a := LPs_len h1 (uk_perm h2 uk) fun q hq => hl q (h2.mem_iff.mp hq)
    have e := h2.length_eq
    have b := tup_len (PyData.shownAll ds)
    have c := list_len [(PyData.int n).shown, tupleText (PyData.shownAll ds)]
    rw [piled_two] at c
    simp only [PyData.shown, PyData.shownAll] at c hi ⊢
    omega
  · omega
theorem two_len {d e : PyData} (hd : d.shown.length ≤ 800) (he : e.shown.length ≤ 800) : (PyData.list [d, e]).shown.length ≤ sizeLine := by
  have c := list_len [d.shown, e.shown]
  rw [piled_two] at c
  have z : 2000 ≤ sizeLine := by decide
  simp only [PyData.shown, PyData.shownAll]
  omega
end DR

namespace DR
open PySem PySem.Spec PyProof.Rows L2
/-! ### two lists of pairs that hold the same things -/
/-- the same thing: a flat value, one object, or data that is alike -/
def SameV (K : PySem.W.Frag) (H : Hp) (v w : V) : Prop := (v = w ∧ (flatB v = true ∨ ∃ c, v = .ref c)) ∨ ∃ d, Dp K H v d ∧ Dp K H w d ∧ d.plain = true ∧ d.depth ≤ 8 ∧ PyData.eqv d d = true
def PairS (K : PySem.W.Frag) (H : Hp) (x y : V) : Prop := ∃ p q z v w, x = .ref p ∧ y = .ref q ∧ SqT K H p [.str z, v] ∧ SqT K H q [.str z, w] ∧ SameV K H v w
def rSameL (K : PySem.W.Frag) (b : Bool) : R2 := fun x y H Q => ∃ a c xs ys, x = .ref a ∧ y = .ref c ∧ SqL K H a xs ∧ SqL K H c ys ∧ PySem.W.EachIs (PairS K H) xs ys ∧ Q (.bl b) H
section
variable {X : Cx} {pins : List (Addr × Obj)} {σ : L2.St} {H : Hp} {s : Shared}
theorem same_run (I : Inv X pins σ H s) {A : Around} (hu : A.units + 20 < cLine) {v w : V} {u z : Value} (h : SameV X.K H v w) (rv : L2.RelV v u) (rw_ : L2.RelV w z) : SeqAt.EqAt A s u z true := by
  rcases h with ⟨rfl, hv⟩ | ⟨d, h1, h2, pl, dp, e⟩
  · rcases hv with hv | ⟨c, rfl⟩
    · exact eqAt_same rv rw_ hv
    · cases (show u = Value.ref c from rv)
      cases (show z = Value.ref c from rw_)
      exact SeqAt.EqAt.same _
  · obtain ⟨as, r1⟩ := Dp.reads I d v u h1 rv
    obtain ⟨bs, r2⟩ := Dp.reads I d w z h2 rw_
    have k := SeqAt.eqAt_plain d d A s u z as bs r1 r2 pl pl (by rw [Nat.min_self]; omega)
    rw [e] at k
    exact k
theorem pairS_run (I : Inv X pins σ H s) {A : Around} (hu : A.units + 22 < cLine) {x y : V} {u z : Value} (h : PairS X.K H x y) (rx : L2.RelV x u) (ry : L2.RelV y z) : SeqAt.EqAt A s u z true := by
  obtain ⟨p, q, t, v, w, rfl, rfl, hp, hq, hv⟩ := h
  cases (show u = Value.ref p from rx)
  cases (show z = Value.ref q from ry)
  by_cases e : p = q
  · subst e
    exact SeqAt.EqAt.same _
  · obtain ⟨us, r1, t1, _⟩ := I.tuple hp
    obtain ⟨ws, r2, t2, _⟩ := I.tuple hq
    refine SeqAt.EqAt.of_refs e ?_
    cases r1 with
    | cons a1 r1 => cases r1 with
    | cons a2 r1 => cases r1 with
    | nil => cases r2 with
    | cons b1 r2 => cases r2 with
    | cons b2 r2 => cases r2 with
    | nil =>
    refine SeqAt.RcAt.tuples (e := fun _ => true) t1 t2 (by omega) fun j h1 h2 => ?_
    match j, h1, h2 with
    | 0, _, _ => exact eqAt_same a1 b1 rfl
    | 1, _, _ => exact same_run I (A := A.in1) (by show A.units + 1 + 20 < cLine; omega) hv a2 b2
    | j + 2, h1, _ =>
      have z : j + 2 < 2 := h1
      omega
theorem pairs_run (I : Inv X pins σ H s) {A : Around} (hu : A.units + 22 < cLine) : ∀ {xs ys : List V}, PySem.W.EachIs (PairS X.K H) xs ys → ∀ {us ws : List Value}, Vals xs us → Vals ys ws → ∀ j (h1 : j < us.length) (h2 : j < ws.length), SeqAt.EqAt A s us[j] ws[j] true
  | _, _, .nil, _, _, r1, r2, j, h1, h2 => by
    cases r1
    exact absurd h1 (Nat.not_lt_zero j)
  | _, _, .cons h t, _, _, r1, r2, j, h1, h2 => by
    cases r1 with
    | cons a1 b1 => cases r2 with
      | cons a2 b2 => cases j with
        | zero => exact pairS_run I hu h a1 a2
        | succ j => exact pairs_run I hu t b1 b2 j (Nat.lt_of_succ_lt_succ h1) (Nat.lt_of_succ_lt_succ h2)
theorem all_true (n : Nat) : ((List.range n).all fun _ => true) = true := List.all_eq_true.mpr fun _ _ => rfl
end
theorem op_eqS {X : Cx} {k : Nat} (hr : Room k X.A) : OpR X (compareOp .Eq) (rSameL X.K true) := by
  intro pins s σ H x y v u Q I rx ry h
  obtain ⟨a, c, xs, ys, rfl, rfl, ha, hc, hp, q⟩ := h
  cases (show v = Value.ref a from rx)
  cases (show u = Value.ref c from ry)
  obtain ⟨us, r1, t1, _⟩ := I.list ha
  obtain ⟨ws, r2, t2, _⟩ := I.list hc
  have hu := hr.units
  have hsz : us.toArray.size = ws.toArray.size := by
    rw [List.size_toArray, List.size_toArray, ← r1.length, ← r2.length]
    exact hp.length
  have k := SeqAt.RcAt.lists (A := X.A) (e := fun _ => true) t1.isList t2.isList hsz (by omega) fun j h1 h2 => by
    have := pairs_run I (A := X.A.in1) (by show X.A.units + 1 + 22 < cLine; omega) hp r1 r2 j (by simpa using h1) (by simpa using h2)
    simpa using this
  rw [all_true] at k
  exact k X.prog X.w _ _ ⟨.bl true, H, I, rfl, q⟩
theorem op_neS {X : Cx} {k : Nat} (hr : Room k X.A) : OpR X (compareOp .NotEq) (rSameL X.K false) := by
  intro pins s σ H x y v u Q I rx ry h
  obtain ⟨a, c, xs, ys, rfl, rfl, ha, hc, hp, q⟩ := h
  cases (show v = Value.ref a from rx)
  cases (show u = Value.ref c from ry)
  obtain ⟨us, r1, t1, _⟩ := I.list ha
  obtain ⟨ws, r2, t2, _⟩ := I.list hc
  have hu := hr.units
  have hsz : us.toArray.size = ws.toArray.size := by
    rw [List.size_toArray, List.size_toArray, ← r1.length, ← r2.length]
    exact hp.length
  have k := SeqAt.RcNeAt.lists (A := X.A) (e := fun _ => true) t1.isList t2.isList hsz (by omega) fun j h1 h2 => by
    have := pairs_run I (A := X.A.in1) (by show X.A.units + 1 + 22 < cLine; omega) hp r1 r2 j (by simpa using h1) (by simpa using h2)
    simpa using this
  rw [all_true] at k
  exact k X.prog X.w _ _ ⟨.bl false, H, I, rfl, q⟩
end DR

namespace DR
open PySem PySem.Spec PyProof.Rows L2
/-! ### what is new -/
theorem none_of {H H' : Hp} {b : Addr} (s : Same H H') (h : H' b = none) : H b = none := by
  cases e : H b with
  | none => rfl
  | some o => rw [s _ _ e] at h; cases h
def nw (B H : Hp) : Hp := fun c => match B c with
  | none => H c
  | some _ => none
theorem nw_at {B H : Hp} {c : Addr} (h : B c = none) : nw B H c = H c := by
  unfold nw
  rw [h]
theorem nw_old {B H : Hp} {c : Addr} {o : HO} (h : B c = some o) : nw B H c = none := by
  unfold nw
  rw [h]
theorem nw_sub {B H : Hp} : Same (nw B H) H := fun c o e => by
  unfold nw at e
  split at e
  · exact e
  · cases e
theorem nw_up {B H H' : Hp} (s : Same H H') : Same (nw B H) (nw B H') := fun c o e => by
  unfold nw at e ⊢
  split at e
  · exact s _ _ e
  · cases e
theorem nw_dom {B B' H : Hp} (s : Same B B') : Same (nw B' H) (nw B H) := fun c o e => by
  cases hb : B c with
  | some u =>
    rw [nw_old (s _ _ hb)] at e
    cases e
  | none =>
    rw [nw_at hb]
    exact nw_sub c o e
theorem nw_new {B H H' : Hp} {p : Addr} {o : HO} (s : Same B H) (hp : H p = none) (h : H' p = some o) : nw B H' p = some o := by
  rw [nw_at (none_of s hp)]
  exact h
/-- what is new but for the pool and the list r -/
theorem nw_wo {B H H' : Hp} {p : Addr} {o : HO} (hp : B p = some o) (k : ∀ b x, b ≠ p → H b = some x → H' b = some x) : Same (nw B H) (wo H' p) := fun c u e => by
  have cp : c ≠ p := fun z => by
    rw [z, nw_old hp] at e
    cases e
  rw [wo_ne cp]
  exact k _ _ cp (nw_sub _ _ e)
/-! ### expressions that make data -/
def MkD (K : PySem.W.Frag) (te : TE) (d : PyData) : Prop := ∀ σ H Q, (∀ H' v, Same H H' → Dp K (nw H H') v d → Q v H') → te σ H Q
def MkDs (K : PySem.W.Frag) (t : TA) (ds : List PyData) : Prop := ∀ σ H (Q : List V → Hp → Prop), (∀ H' vs, Same H H' → DpAll K (nw H H') vs ds → Q vs H') → t σ H Q
def MkT (K : PySem.W.Frag) (te : TE) (d : PyData) : Prop := ∀ σ H Q, (∀ H' v, Same H H' → Th K (nw H H') v d → Q v H') → te σ H Q
def MkTs (K : PySem.W.Frag) (t : TA) (ds : List PyData) : Prop := ∀ σ H (Q : List V → Hp → Prop), (∀ H' vs, Same H H' → PySem.W.EachIs (Th K (nw H H')) vs ds → Q vs H') → t σ H Q
section
variable {K : PySem.W.Frag}
theorem mk_non : MkD K (tC .non) .none := fun σ H Q q => q H _ (Same.refl H) .non
theorem mk_bl {b : Bool} : MkD K (tC (.bl b)) (.bool b) := fun σ H Q q => q H _ (Same.refl H) (.bl b)
theorem mk_int {i : Int} : MkD K (tC (.int i)) (.int i) := fun σ H Q q => q H _ (Same.refl H) (.int i)
theorem mk_str {z : Str} : MkD K (tC (.str z)) (.str z) := fun σ H Q q => q H _ (Same.refl H) (.str z)
theorem mk_eq {i j : Int} : MkD K (tOp rEq (tC (.int i)) (tC (.int j))) (.bool (decide (V.int i = V.int j))) := fun σ H Q q => ⟨rfl, q H _ (Same.refl H) (.bl _)⟩
theorem mkds_nil : MkDs K tNil [] := fun σ H Q q => q H [] (Same.refl H) .nil
theorem mkds_cons {te : TE} {t : TA} {d : PyData} {ds : List PyData} (h : MkD K te d) (hs : MkDs K t ds) : MkDs K (tCons te t) (d :: ds) := fun σ H Q q => h σ H _ fun H1 v s1 hv => hs σ H1 _ fun H2 vs s2 hvs => q H2 _ (s1.trans s2) (.cons (dp_same (nw_up s2) hv) (dps_same (nw_dom s1) hvs))
theorem mk_tup {t : TA} {ds : List PyData} (h : MkDs K t ds) (l : ds.length ≤ 1000) : MkD K (tTup t) (.tuple ds) := fun σ H Q q => h σ H _ fun H1 vs s1 hvs => ⟨Nat.le_of_lt (small1000 (by rw [dps_len hvs]; exact l)), fun p hp => q _ _ (s1.trans (same_new hp)) (.tup (SqT.of (nw_new s1 hp upd_same)) (dps_same (nw_up (same_new hp)) hvs))⟩
theorem mk_lst {t : TA} {ds : List PyData} (h : MkDs K t ds) (l : ds.length ≤ 1000) : MkD K (tLst t) (.list ds) := fun σ H Q q => h σ H _ fun H1 vs s1 hvs => ⟨Nat.le_of_lt (small1000 (by rw [dps_len hvs]; exact l)), fun p hp => q _ _ (s1.trans (same_new hp)) (.lst (SqL.of (nw_new s1 hp upd_same)) (dps_same (nw_up (same_new hp)) hvs))⟩
theorem mkt_dat {te : TE} {d : PyData} (h : MkD K te d) : MkT K te d := fun σ H Q q => h σ H Q fun H' v s hv => q H' v s (.dat hv)
theorem mkt_dct : MkT K tDNewK (.dict []) := fun σ H Q q D hD => q _ _ (same_new hD) (.dct (nw_new (Same.refl H) hD upd_same))
theorem mkts_nil : MkTs K tNil [] := fun σ H Q q => q H [] (Same.refl H) .nil
theorem mkts_cons {te : TE} {t : TA} {d : PyData} {ds : List PyData} (h : MkT K te d) (hs : MkTs K t ds) : MkTs K (tCons te t) (d :: ds) := fun σ H Q q => h σ H _ fun H1 v s1 hv => hs σ H1 _ fun H2 vs s2 hvs => q H2 _ (s1.trans s2) (.cons (th_same (nw_up s2) hv) (eachs_imp (fun _ _ => th_same (nw_dom s1)) hvs))
end
theorem eachs_app2 {α β : Type} {R : α → β → Prop} : ∀ {ys zs : List α} {us vs : List β}, PySem.W.EachIs R ys us → PySem.W.EachIs R zs vs → PySem.W.EachIs R (ys ++ zs) (us ++ vs)
  | _, _, _, _, .nil, h => h
  | _, _, _, _, .cons g t, h => .cons g (eachs_app2 t h)
/-- a list of such things, which rest on what is new since B -/
structure LstT (K : PySem.W.Frag) (B H : Hp) (a : Addr) (xs : List V) (ds : List PyData) : Prop where
  lst : H a = some (.lst xs)
  each : PySem.W.EachIs (Th K (nw B H)) xs ds
theorem LstT.same {K : PySem.W.Frag} {B H H' : Hp} {a : Addr} {xs : List V} {ds : List PyData} (h : LstT K B H a xs ds) (e : Same H H') : LstT K B H' a xs ds :=
  ⟨e _ _ h.lst, eachs_imp (fun _ _ => th_same (nw_up e)) h.each⟩
theorem lstT_go {K : PySem.W.Frag} {t : TA} {ds : List PyData} {σ : L2.St} {B H : Hp} {Q : VK} (s0 : Same B H) (m : MkTs K t ds) (hl : ds.length ≤ 1000) (q : ∀ H' a xs, Same H H' → H a = none → LstT K B H' a xs ds → Q (.ref a) H') : tLst t σ H Q :=
  m σ H _ fun H1 vs s1 hvs => ⟨Nat.le_of_lt (small1000 (by rw [hvs.length]; exact hl)), fun p hp => q _ p vs (s1.trans (same_new hp)) (none_of s1 hp) ⟨upd_same, eachs_imp (fun _ _ => th_same ((nw_up (same_new hp)).trans (nw_dom s0))) hvs⟩⟩
theorem catT_go {K : PySem.W.Frag} {j : Nat} {t : TA} {ds es : List PyData} {σ : L2.St} {B H : Hp} {a : Addr} {xs : List V} {Q : VK} (s0 : Same B H) (hs : σ[j]? = some (some (.ref a))) (h : LstT K B H a xs ds) (m : MkTs K t es) (hl : ds.length + es.length ≤ 1000) (q : ∀ H' b ys, Same H H' → H b = none → LstT K B H' b ys (ds ++ es) → Q (.ref b) H') : tOp rCat (tVar j) (tLst t) σ H Q := by
  refine ⟨_, hs, m σ H _ fun H1 vs s1 hvs => ⟨Nat.le_of_lt (small1000 (by rw [hvs.length]; omega)), fun p hp => ?_⟩⟩
  have s2 := s1.trans (same_new (o := .lst vs) hp)
  have h2 := h.same s2
  have l1 := h2.each.length
  have l2 := hvs.length
  refine ⟨a, p, xs, vs, rfl, rfl, h2.lst, upd_same, Nat.le_of_lt (small1000 (by omega)), fun p2 hp2 => ?_⟩
  have s3 := same_new (o := .lst (xs ++ vs)) hp2
  exact q _ p2 _ (s2.trans s3) (none_of s2 hp2) ⟨upd_same, eachs_app2 (eachs_imp (fun _ _ => th_same (nw_up s3)) h2.each) (eachs_imp (fun _ _ => th_same ((nw_up ((same_new hp).trans s3)).trans (nw_dom s0))) hvs)⟩
theorem each_at {α β : Type} {R : α → β → Prop} : ∀ {ys : List α} {us : List β}, PySem.W.EachIs R ys us → ∀ {y : α}, y ∈ ys → ∃ u ∈ us, R y u
  | _, _, .nil, y, h => by cases h
  | _, _, .cons h t, y, hy => by
    rcases List.mem_cons.mp hy with rfl | hy
    · exact ⟨_, List.mem_cons_self .., h⟩
    · obtain ⟨u, h1, h2⟩ := each_at t hy
      exact ⟨u, List.mem_cons_of_mem _ h1, h2⟩
/-! ### things that are no sums, decided -/
def shortB : PyData → Bool
  | .str s => decide (s.length ≤ 1000)
  | _ => true
theorem shortB_ok {d : PyData} (h : shortB d = true) : shortS d := by
  cases d with
  | str s =>
    have h : decide (s.length ≤ 1000) = true := h
    exact of_decide_eq_true (p := s.length ≤ 1000) h
  | _ => trivial
def shortPB (d : PyData) : Bool := match items d with
  | some [a, b] => shortB a && shortB b
  | _ => true
theorem shortPB_ok {d : PyData} (h : shortPB d = true) : shortP d := by
  unfold shortP
  split
  · rename_i a b
    have h : (shortB a && shortB b) = true := h
    rw [Bool.and_eq_true] at h
    exact ⟨shortB_ok h.1, shortB_ok h.2⟩
  · rename_i a b
    have h : (shortB a && shortB b) = true := h
    rw [Bool.and_eq_true] at h
    exact ⟨shortB_ok h.1, shortB_ok h.2⟩
  · trivial
def okPB (p : PyData) : Bool := match items p with
  | some [x, .int _] => shortPB x
  | _ => true
def okSB (w : PyData) : Bool := match items w with
  | some [.int _, q] => (match items q with
    | some ds => decide (ds.length ≤ 1000) && ds.all okPB
    | none => true)
  | _ => true
theorem okSB_ok {w : PyData} (h : okSB w = true) : okSum w := by
  intro n q ds e1 e2
  unfold okSB at h
  rw [e1] at h
  have h : (match items q with | some ds => decide (ds.length ≤ 1000) && ds.all okPB | none => true) = true := h
  rw [e2] at h
  have h : (decide (ds.length ≤ 1000) && ds.all okPB) = true := h
  rw [Bool.and_eq_true, decide_eq_true_iff, List.all_eq_true] at h
  refine ⟨h.1, fun p hp x m e => ⟨?_, fun u hu => readUnk_nm hu⟩⟩
  have hb := h.2 p hp
  unfold okPB at hb
  rw [e] at hb
  exact shortPB_ok hb
/-- no sum -/
def noSumB (d : PyData) : Bool := okSB d && (readSum d).isNone
structure NoS (d : PyData) : Prop where
  ok : okSum d
  no : readSum d = none
theorem noSumB_ok {d : PyData} (h : noSumB d = true) : NoS d := by
  unfold noSumB at h
  rw [Bool.and_eq_true] at h
  exact ⟨okSB_ok h.1, Option.isNone_iff_eq_none.mp h.2⟩
end DR

namespace DR
open PySem PySem.Spec PyProof.Rows L2
/-! ### _law_refused_right: what is no sum -/
abbrev sRef : Stmt := topS 42
abbrev NR : List Str := ["pool", "one", "found", "key", "number", "odd"]
theorem scRef : FnScope NR ["pool", "one"] (defScope sRef) := ⟨rfl, rfl, rfl, by decide +kernel, rfl, by decide +kernel, by decide +kernel⟩
abbrev rb (i : Nat) : Stmt := (defBody sRef).getD i (.Pass ⟨0, 0, 0, 0⟩)
abbrev qRef : Str := (envOfC "_law_refused_right" (defScope sRef) 0 0 .none).qual ++ "<lambda>"
abbrev XR (P : Program) (w : World) (K : PySem.W.Frag) (mg : Str → Option Value) (base : Heap) (f c : Addr) (A : Around) (outer : List Env) (s : Shared) (H : Hp) (E : XK) : Cx := cxOf (L2.CX P w) P w K mg base NR "_law_refused_right" (defScope sRef) f (.ref c) A outer s H E
/-- what _law_refused_right calls -/
structure TR (P : Program) (w : World) (K : PySem.W.Frag) (mg : Str → Option Value) (base : Heap) (CS CN CW : Addr) : Prop where
  bi : Bi mg
  one : Has P w K mg base CX0 2 "_law_one" ["pool", "things"] (spOne K)
  met : Met K mg CS CN CW
  sumOf : Has P w K mg base (L2.CX P w) 5 "sum_of" ["thing"] (spSumOf K CS)
  plus : Has P w K mg base (L2.CX P w) 6 "plus" ["one", "other"] (spBin K CS 1)
  minus : Has P w K mg base (L2.CX P w) 6 "minus" ["one", "other"] (spBin K CS (-1))
  times : Has P w K mg base (L2.CX P w) 6 "times" ["one", "number"] (spMult K CS CN)
  putIn : Has P w K mg base (L2.CX P w) 7 "put_in" ["one", "worths"] (spPutIn K P w CS CW)
  unks : Has P w K mg base (L2.CX P w) 6 "unknowns" ["one"] (spUnks K CS)
  addr : Has P w K mg base (L2.CX P w) 6 "address_of" ["one"] (spAddrOf K CS)
abbrev sgr (p : Addr) (vo : V) (o2 o3 o4 o5 : Option V) : L2.St := [some (.ref p), some vo, o2, o3, o4, o5]
def odd1 : List PyData := [.none, (.bool true), (.str "a"), (.tuple []), (.tuple [(.int 1)]), (.tuple [(.int 1), (.tuple [(.tuple [(.tuple [(.str "piece"), (.str "a")]), (.bool true)])])]), (.tuple [(.bool true), (.tuple [])]), (.tuple [(.int 0), (.tuple [(.tuple [(.tuple [(.str "in"), (.int 0)]), (.int 1)])])]), (.dict [])]
def odd2 : List PyData := [(.tuple [(.int 0), (.tuple [(.tuple [(.tuple [(.str "piece"), (.str "A")]), (.int 1)])])]), (.tuple [(.int 0), (.tuple [(.tuple [(.tuple [(.str "place"), (.str "a")]), (.int 1)])])]), (.tuple [(.int 0), (.tuple [(.tuple [(.tuple [(.str "in"), (.bool true)]), (.int 1)])])]), (.tuple [(.int 1), (.int 2)]), (.list [(.int 0), (.list [(.int 5)])])]
def odd3 : List PyData := [(.tuple [(.int 0), (.tuple [(.tuple [(.tuple [(.str "piece"), (.str "a"), (.str "b")]), (.int 1)])])]), (.tuple [(.int 0), (.tuple [(.tuple [(.tuple [(.str "piece"), (.str "a")]), (.int 1)]), (.tuple [(.tuple [(.str "x"), (.str "a")]), (.int 1)])])])]
def odd4 : List PyData := [(.tuple [(.int 0), (.tuple [(.tuple [(.tuple [(.str "name"), (.str "abcdefghi")]), (.int 1)])])]), (.tuple [(.int 0), (.tuple [(.str "ab")])]), (.bool (decide (V.int 1 = V.int 2)))]
def odds : List PyData := ((odd1 ++ odd2) ++ odd3) ++ odd4
theorem odds_no : ∀ d ∈ odds, NoS d := by
  have h : odds.all noSumB = true := by decide +kernel
  rw [List.all_eq_true] at h
  exact fun d hd => noSumB_ok (h d hd)
/-- what stands but the pool stays -/
def Keep (p : Addr) (H H' : Hp) : Prop := ∀ b x, b ≠ p → H b = some x → H' b = some x
section
variable {P : Program} {w : World} {K : PySem.W.Frag} {mg : Str → Option Value} {base : Heap} {CS CN CW f c tb : Addr} {T' : List (Addr × Str)} {A : Around} {outer : List Env} {s : Shared} {H0 : Hp} {E : XK}
theorem rr0 : ∃ t, PS (XR P w K mg base f c A outer s H0 E) (rb 0) t ∧ ∀ (D : Ends) (H : Hp) (p : Addr) (vo : V),
      (∀ H' a xs, Same H H' → LstT K H H' a xs odd1 → D.nx (sgr p vo none none none (some (.ref a))) H') → t D (sgr p vo none none none none) H := by
  refine ⟨_, ps_set (i := 5) scRef.nd rfl (.inr rfl) (pe_lst (pa_cons pe_non (pa_cons pe_bl (pa_cons pe_str (pa_cons (pe_tup pa_nil) (pa_cons (pe_tup (pa_cons pe_int pa_nil)) (pa_cons (pe_tup (pa_cons pe_int (pa_cons (pe_tup (pa_cons (pe_tup (pa_cons (pe_tup (pa_cons pe_str (pa_cons pe_str pa_nil))) (pa_cons pe_bl pa_nil))) pa_nil)) pa_nil))) (pa_cons (pe_tup (pa_cons pe_bl (pa_cons (pe_tup pa_nil) pa_nil))) (pa_cons (pe_tup (pa_cons pe_int (pa_cons (pe_tup (pa_cons (pe_tup (pa_cons (pe_tup (pa_cons pe_str (pa_cons pe_int pa_nil))) (pa_cons pe_int pa_nil))) pa_nil)) pa_nil))) (pa_cons pe_dnewK pa_nil)))))))))), ?_⟩
  intro D H p vo q
  exact lstT_go (K := K) (ds := odd1) (Same.refl H) (by repeat' (first | exact mk_non | exact mk_bl | exact mk_int | exact mk_str | exact mk_eq | exact mkds_nil | exact mkts_nil | exact mkt_dct | refine mkds_cons ?_ ?_ | refine mkts_cons ?_ ?_ | refine mk_tup ?_ (by decide) | refine mk_lst ?_ (by decide) | refine mkt_dat ?_)) (by decide) fun H1 a xs s1 _ h1 => q H1 a xs s1 h1
theorem rr1 : ∃ t, PS (XR P w K mg base f c A outer s H0 E) (rb 1) t ∧ ∀ (D : Ends) (B H : Hp) (p a : Addr) (vo : V) (xs : List V), Same B H → LstT K B H a xs odd1 →
      (∀ H' b ys, Same H H' → LstT K B H' b ys (odd1 ++ odd2) → D.nx (sgr p vo none none none (some (.ref b))) H') → t D (sgr p vo none none none (some (.ref a))) H := by
  refine ⟨_, ps_set (i := 5) scRef.nd rfl (.inr rfl) (pe_op op_cat (pv 5) (pe_lst (pa_cons (pe_tup (pa_cons pe_int (pa_cons (pe_tup (pa_cons (pe_tup (pa_cons (pe_tup (pa_cons pe_str (pa_cons pe_str pa_nil))) (pa_cons pe_int pa_nil))) pa_nil)) pa_nil))) (pa_cons (pe_tup (pa_cons pe_int (pa_cons (pe_tup (pa_cons (pe_tup (pa_cons (pe_tup (pa_cons pe_str (pa_cons pe_str pa_nil))) (pa_cons pe_int pa_nil))) pa_nil)) pa_nil))) (pa_cons (pe_tup (pa_cons pe_int (pa_cons (pe_tup (pa_cons (pe_tup (pa_cons (pe_tup (pa_cons pe_str (pa_cons pe_bl pa_nil))) (pa_cons pe_int pa_nil))) pa_nil)) pa_nil))) (pa_cons (pe_tup (pa_cons pe_int (pa_cons pe_int pa_nil))) (pa_cons (pe_lst (pa_cons pe_int (pa_cons (pe_lst (pa_cons pe_int pa_nil)) pa_nil))) pa_nil))))))), ?_⟩
  intro D B H p a vo xs sB h q
  exact catT_go (K := K) (es := odd2) sB rfl h (by repeat' (first | exact mk_non | exact mk_bl | exact mk_int | exact mk_str | exact mk_eq | exact mkds_nil | exact mkts_nil | exact mkt_dct | refine mkds_cons ?_ ?_ | refine mkts_cons ?_ ?_ | refine mk_tup ?_ (by decide) | refine mk_lst ?_ (by decide) | refine mkt_dat ?_)) (by decide) fun H1 b ys s1 _ h1 => q H1 b ys s1 h1
theorem rr2 : ∃ t, PS (XR P w K mg base f c A outer s H0 E) (rb 2) t ∧ ∀ (D : Ends) (B H : Hp) (p a : Addr) (vo : V) (xs : List V), Same B H → LstT K B H a xs (odd1 ++ odd2) →
      (∀ H' b ys, Same H H' → LstT K B H' b ys ((odd1 ++ odd2) ++ odd3) → D.nx (sgr p vo none none none (some (.ref b))) H') → t D (sgr p vo none none none (some (.ref a))) H := by
  refine ⟨_, ps_set (i := 5) scRef.nd rfl (.inr rfl) (pe_op op_cat (pv 5) (pe_lst (pa_cons (pe_tup (pa_cons pe_int (pa_cons (pe_tup (pa_cons (pe_tup (pa_cons (pe_tup (pa_cons pe_str (pa_cons pe_str (pa_cons pe_str pa_nil)))) (pa_cons pe_int pa_nil))) pa_nil)) pa_nil))) (pa_cons (pe_tup (pa_cons pe_int (pa_cons (pe_tup (pa_cons (pe_tup (pa_cons (pe_tup (pa_cons pe_str (pa_cons pe_str pa_nil))) (pa_cons pe_int pa_nil))) (pa_cons (pe_tup (pa_cons (pe_tup (pa_cons pe_str (pa_cons pe_str pa_nil))) (pa_cons pe_int pa_nil))) pa_nil))) pa_nil))) pa_nil)))), ?_⟩
  intro D B H p a vo xs sB h q
  exact catT_go (K := K) (es := odd3) sB rfl h (by repeat' (first | exact mk_non | exact mk_bl | exact mk_int | exact mk_str | exact mk_eq | exact mkds_nil | exact mkts_nil | exact mkt_dct | refine mkds_cons ?_ ?_ | refine mkts_cons ?_ ?_ | refine mk_tup ?_ (by decide) | refine mk_lst ?_ (by decide) | refine mkt_dat ?_)) (by decide) fun H1 b ys s1 _ h1 => q H1 b ys s1 h1
theorem rr3 (L : TR P w K mg base CS CN CW) (hr : Room 15 (XR P w K mg base f c A outer s H0 E).A) : ∃ t, PS (XR P w K mg base f c A outer s H0 E) (rb 3) t ∧ ∀ (D : Ends) (B H : Hp) (p a : Addr) (cc : Nat) (vo : V) (xs : List V), Same B H → Pool B p cc → cc < 1000 → LstT K B H a xs ((odd1 ++ odd2) ++ odd3) →
      (∀ H' v d, Keep p B H' → Pool H' p (cc + 1) → Th K (nw B H') v d → NoS d → D.nx (sgr p vo none none none (some v)) H') → t D (sgr p vo none none none (some (.ref a))) H := by
  refine ⟨_, ps_set (i := 5) scRef.nd rfl (.inr rfl) (pe_callH L.one (hr.mono (by decide)) (by rfl) pass0 (pa_cons (pv 0) (pa_cons (pe_op op_cat (pv 5) (pe_lst (pa_cons (pe_tup (pa_cons pe_int (pa_cons (pe_tup (pa_cons (pe_tup (pa_cons (pe_tup (pa_cons pe_str (pa_cons pe_str pa_nil))) (pa_cons pe_int pa_nil))) pa_nil)) pa_nil))) (pa_cons (pe_tup (pa_cons pe_int (pa_cons (pe_tup (pa_cons pe_str pa_nil)) pa_nil))) (pa_cons (pe_cmpR op_eq pe_int pe_int (nomark _)) pa_nil))))) pa_nil))), ?_⟩
  intro D B H p a cc vo xs sB pl few h q
  refine ⟨_, rfl, catT_go (K := K) (es := odd4) sB rfl h (by repeat' (first | exact mk_non | exact mk_bl | exact mk_int | exact mk_str | exact mk_eq | exact mkds_nil | exact mkts_nil | exact mkt_dct | refine mkds_cons ?_ ?_ | refine mkts_cons ?_ ?_ | refine mk_tup ?_ (by decide) | refine mk_lst ?_ (by decide) | refine mkt_dat ?_)) (by decide) fun H1 b ys s1 nb h1 => ?_⟩
  have pl1 := pool_same (sB.trans s1) pl
  obtain ⟨_, _, _, eB, _⟩ := pl.ex
  have bp : b ≠ p := fun z => by
    rw [z, sB _ _ eB] at nb
    cases nb
  have ly := h1.each.length
  have l18 : (((odd1 ++ odd2) ++ odd3) ++ odd4).length = 19 := rfl
  refine ⟨p, b, cc, ys, rfl, pl1, by omega, .inl (SqL.of h1.lst), bp, by omega, by omega, fun v o hv pl2 => ?_⟩
  obtain ⟨d, hd, th⟩ := each_at h1.each hv
  refine q _ v d (fun b x hb e => by rw [upd_ne hb]; exact s1 _ _ (sB _ _ e)) pl2 (th_same (fun c u e => ?_) th) (odds_no d hd)
  have cp : c ≠ p := fun z => by
    rw [z, nw_old eB] at e
    cases e
  unfold nw at e ⊢
  split at e
  · show upd H1 p o c = _
    rw [upd_ne cp]
    exact e
  · cases e
end
end DR

namespace DR
open PySem PySem.Spec PyProof.Rows L2
/-! ### _law_refused_right: what stands while it runs -/
mutual
theorem dp_ext {K : PySem.W.Frag} {H H' : Hp} (e : LamX.ExtN H H') : ∀ {v : V} {d : PyData}, Dp K H v d → Dp K H' v d
  | _, _, .non => .non
  | _, _, .bl b => .bl b
  | _, _, .int i => .int i
  | _, _, .str x => .str x
  | _, _, .lst s a => .lst (sqL_ext e s) (dps_ext e a)
  | _, _, .tup s a => .tup (sqT_ext e s) (dps_ext e a)
theorem dps_ext {K : PySem.W.Frag} {H H' : Hp} (e : LamX.ExtN H H') : ∀ {vs : List V} {ds : List PyData}, DpAll K H vs ds → DpAll K H' vs ds
  | _, _, .nil => .nil
  | _, _, .cons h t => .cons (dp_ext e h) (dps_ext e t)
end
theorem th_ext {K : PySem.W.Frag} {H H' : Hp} (e : LamX.ExtN H H') {v : V} {d : PyData} : Th K H v d → Th K H' v d
  | .dat h => .dat (dp_ext e h)
  | .dct h => .dct (e _ _ h (by intro x z; cases z))
theorem pool_ext {H H' : Hp} {p : Addr} {c : Nat} (e : LamX.ExtN H H') (h : Pool H p c) : Pool H' p c := by
  obtain ⟨a, b, z, h1, h2⟩ := h.ex
  exact ⟨a, b, z, e _ _ h1 (by intro x z; cases z), h2⟩
theorem ext_wo {H H' : Hp} {p : Addr} (e : LamX.ExtN H H') : LamX.ExtN (wo H p) (wo H' p) := fun b x h n => by
  by_cases hb : b = p
  · rw [hb] at h
    unfold wo at h
    rw [if_pos rfl] at h
    cases h
  · rw [wo_ne hb] at h ⊢
    exact e b x h n
theorem wo_sub {H : Hp} {p : Addr} : Same (wo H p) H := fun b x h => by
  by_cases hb : b = p
  · rw [hb] at h
    unfold wo at h
    rw [if_pos rfl] at h
    cases h
  · rw [wo_ne hb] at h
    exact h
theorem wo_upd {H : Hp} {r : Addr} {o : HO} : wo (upd H r o) r = wo H r := by
  funext b
  by_cases hb : b = r
  · rw [hb]
    unfold wo
    rw [if_pos rfl, if_pos rfl]
  · rw [wo_ne hb, wo_ne hb, upd_ne hb]
theorem wo_none {H : Hp} {r : Addr} (h : H r = none) : Same H (wo H r) := fun b x e => by
  rw [wo_ne (ne_of_none e h)]
  exact e
theorem tabs_wo {T : List (Addr × Str)} {H : Hp} {r : Addr} {xs : List V} (h : LamX.Tabs T H) (hr : H r = some (.lst xs)) : LamX.Tabs T (wo H r) := fun p hp => by
  obtain ⟨ps, h1, h2, h3⟩ := h p hp
  refine ⟨ps, ?_, h2, fun pos cv e => ?_⟩
  · rw [wo_ne (fun z => by rw [z, hr] at h1; cases h1)]
    exact h1
  · obtain ⟨c, e1, e2⟩ := h3 pos cv e
    refine ⟨c, e1, ?_⟩
    rw [wo_ne (fun z => by rw [z, hr] at e2; cases e2)]
    exact e2
structure Rf (K : PySem.W.Frag) (T' : List (Addr × Str)) (B : Hp) (p : Addr) (vo : V) (d : PyData) (vd : V) (dd : PyData) (H : Hp) : Prop where
  tabs : LamX.Tabs T' H
  one : Dp K (wo H p) vo d
  odd : Th K (wo H p) vd dd
  keep : LamX.ExtN (wo B p) (wo H p)
  pool : ∃ c, Pool H p c ∧ c < 2000
theorem Rf.ext {K : PySem.W.Frag} {T' : List (Addr × Str)} {B H H' : Hp} {p : Addr} {vo vd : V} {d dd : PyData} (h : Rf K T' B p vo d vd dd H) (e : LamX.ExtN H H') (t : LamX.Tabs T' H') : Rf K T' B p vo d vd dd H' := by
  obtain ⟨c, h1, h2⟩ := h.pool
  exact ⟨t, dp_ext (ext_wo e) h.one, th_ext (ext_wo e) h.odd, h.keep.trans (ext_wo e), c, pool_ext e h1, h2⟩
theorem Rf.extR {K : PySem.W.Frag} {T' : List (Addr × Str)} {B H H' : Hp} {p r : Addr} {vo vd : V} {d dd : PyData} {xs : List V} (h : Rf K T' B p vo d vd dd (wo H r)) (hr : H r = some (.lst xs)) (e : LamX.ExtN H H') (t : LamX.Tabs T' H') : Rf K T' B p vo d vd dd (wo H' r) :=
  h.ext (ext_wo e) (tabs_wo t (e _ _ hr (by intro x z; cases z)))
theorem Rf.thOdd {K : PySem.W.Frag} {T' : List (Addr × Str)} {B H : Hp} {p r : Addr} {vo vd : V} {d dd : PyData} (h : Rf K T' B p vo d vd dd (wo H r)) : Th K H vd dd := th_same (wo_sub.trans wo_sub) h.odd
theorem Rf.thOne {K : PySem.W.Frag} {T' : List (Addr × Str)} {B H : Hp} {p r : Addr} {vo vd : V} {d dd : PyData} (h : Rf K T' B p vo d vd dd (wo H r)) : Th K H vo d := .dat (dp_same (wo_sub.trans wo_sub) h.one)
/-- what was found so far: the same k times -/
def Fnd (H : Hp) (r : Addr) (v : V) (k : Nat) : Prop := ∃ xs, H r = some (.lst xs) ∧ xs.length = k ∧ ∀ y ∈ xs, ∃ a, y = .ref a ∧ H a = some (.tup [.str "sum", v])
theorem app_fin {K : PySem.W.Frag} {T' : List (Addr × Str)} {B H H2 : Hp} {p r a : Addr} {vo vd : V} {d dd : PyData} {k : Nat} (h : Rf K T' B p vo d vd dd (wo H r)) (F : Fnd H r vd k) (hk : k ≤ 20) (e : LamX.ExtN H H2) (t : LamX.Tabs T' H2) (ha : H2 a = some (.tup [.str "sum", vd])) :
    ∃ xs, H2 r = some (.lst xs) ∧ xs.length < sizeLine ∧ Rf K T' B p vo d vd dd (wo (upd H2 r (.lst (xs ++ [.ref a]))) r) ∧ Fnd (upd H2 r (.lst (xs ++ [.ref a]))) r vd (k + 1) := by
  obtain ⟨xs, h1, h2, h3⟩ := F
  have hr2 := e _ _ h1 (by intro x z; cases z)
  refine ⟨xs, hr2, small1000 (by omega), ?_, xs ++ [.ref a], upd_same, by rw [List.length_append, h2]; rfl, fun y hy => ?_⟩
  · rw [wo_upd]
    exact h.extR h1 e t
  · have off : ∀ {b : Addr} {z : List V}, H2 b = some (.tup z) → upd H2 r (.lst (xs ++ [.ref a])) b = some (.tup z) := fun hb => by
      rw [upd_ne (fun z => by rw [z, hr2] at hb; cases hb)]
      exact hb
    rcases List.mem_append.mp hy with hy | hy
    · obtain ⟨b, e1, e2⟩ := h3 y hy
      exact ⟨b, e1, off (e _ _ e2 (by intro x z; cases z))⟩
    · exact ⟨a, List.mem_singleton.mp hy, off ha⟩
theorem met_sum {CS CN CW : Addr} {v : V} {Q : VK} {T : List (Addr × Str)} {H1 : Hp} (t1 : LamX.Tabs T H1) (q : ∀ a H', Same H1 H' → LamX.Tabs T H' → H' a = some (.tup [.str "sum", v]) → Q (.ref a) H') : NoSum CS H1 v (MetE CS CN CW Q) := fun H' dx s hdx => by
  refine .inl ⟨dx, v, rfl, rfl, upd_same, fun p hp => ?_⟩
  have s2 := (s.trans (same_new (o := .xd [("thing", v)]) hdx)).trans (same_new (o := .tup [.str "sum", v]) hp)
  exact q _ _ s2 (t1.ext s2) upd_same
/-- a sum that is read -/
structure OneD (d : PyData) (n : Int) (ps : Mul) : Prop where
  ok : okSum d
  rd : readSum d = some (n, ps)
theorem NoS.not {d : PyData} (h : NoS d) {n : Int} {ps : Mul} {Q : Prop} (e : readSum d = some (n, ps)) : Q := by
  rw [h.no] at e
  cases e
theorem OneD.not {d : PyData} {n : Int} {ps : Mul} (h : OneD d n ps) {Q : Prop} (e : readSum d = none) : Q := by
  rw [h.rd] at e
  cases e
section
variable {P : Program} {w : World} {K : PySem.W.Frag} {mg : Str → Option Value} {base : Heap} {CS CN CW f c tb : Addr} {T' : List (Addr × Str)} {A : Around} {outer : List Env} {s : Shared} {H0 : Hp} {E : XK}
theorem rr4 (L : TR P w K mg base CS CN CW) (TB : LamX.TabB base mg c tb) (hmT : (tb, qRef) ∈ T') (hu : ∀ p ∈ T', p.1 = tb → p.2 = qRef) (hr : Room 15 (XR P w K mg base f c A outer s H0 E).A) : ∃ t, PS (XR P w K mg base f c A outer s H0 E) (rb 4) t ∧
    ∀ (D : Ends) (B H : Hp) (p : Addr) (vo vd : V) (d dd : PyData) (o3 o4 : Option V), Rf K T' B p vo d vd dd H → NoS dd →
      (∀ H' r, Rf K T' B p vo d vd dd (wo H' r) → Fnd H' r vd 1 → D.nx (sgr p vo (some (.ref r)) o3 o4 (some vd)) H') → ∀ o2, t D (sgr p vo o2 o3 o4 (some vd)) H := by
  refine ⟨_, ps_set (i := 2) scRef.nd rfl (.inl rfl) (pe_lst (pa_cons (pe_met (k := 12) L.met (by rfl) TB rfl hmT hu (hr.mono (by decide)) (LamX.lamS_by (show LamX.lamSB (defScope sRef) _ = true by decide +kernel)) rfl (fun _ _ _ _ _ => rfl) fun A outer s H E f c' hr => (pe_callH L.sumOf (hr.mono (by decide)) (by rfl) (passes_call (W := fun cls d _ H => E cls d H) (takes_of rfl rfl rfl rfl) (fun _ _ _ _ h => h)) (pa_cons (pv 5) pa_nil))) pa_nil)), ?_⟩
  intro D B H p vo vd d dd o3 o4 h no q o2
  refine ⟨h.tabs, fun H1 e1 t1 => ?_⟩
  have h1 := h.ext e1 t1
  refine ⟨_, rfl, vd, dd, rfl, th_same wo_sub h1.odd, no.ok, fun n ps e => no.not e, fun _ => met_sum t1 fun a H2 s2 t2 ha => ⟨(by show 1 ≤ sizeLine; decide), fun r hr => ?_⟩⟩
  have s3 := same_new (o := .lst [V.ref a]) hr
  refine q _ r ?_ ⟨[.ref a], upd_same, rfl, fun y hy => ⟨a, List.mem_singleton.mp hy, s3 _ _ ha⟩⟩
  rw [wo_upd]
  have s4 := s2.trans (wo_none hr)
  exact h1.ext (LamX.ExtN.of s4) (t2.ext (wo_none hr))
end
end DR

namespace DR
open PySem PySem.Spec PyProof.Rows L2
section
variable {P : Program} {w : World} {K : PySem.W.Frag} {mg : Str → Option Value} {base : Heap} {CS CN CW f c tb : Addr} {T' : List (Addr × Str)} {A : Around} {outer : List Env} {s : Shared} {H0 : Hp} {E : XK}
theorem rr5 (L : TR P w K mg base CS CN CW) (TB : LamX.TabB base mg c tb) (hmT : (tb, qRef) ∈ T') (hu : ∀ p ∈ T', p.1 = tb → p.2 = qRef) (hr : Room 15 (XR P w K mg base f c A outer s H0 E).A) : ∃ t, PS (XR P w K mg base f c A outer s H0 E) (rb 5) t ∧
    ∀ (D : Ends) (B H : Hp) (p r : Addr) (vo vd : V) (d dd : PyData) (n : Int) (ps : Mul) (o3 o4 : Option V), Rf K T' B p vo d vd dd (wo H r) → OneD d n ps → NoS dd → Fnd H r vd 1 →
      (∀ H', Rf K T' B p vo d vd dd (wo H' r) → Fnd H' r vd 2 → D.nx (sgr p vo (some (.ref r)) o3 o4 (some vd)) H') → t D (sgr p vo (some (.ref r)) o3 o4 (some vd)) H := by
  refine ⟨_, (ps_expr (pe_bm PySem.F.plainAttrs_list PySem.F.slot_list_append PySem.F.type_list_append mt_append (pv 2) (pa_cons (pe_met (k := 12) L.met (by rfl) TB rfl hmT hu (hr.mono (by decide)) (LamX.lamS_by (show LamX.lamSB (defScope sRef) _ = true by decide +kernel)) rfl (fun _ _ _ _ _ => rfl) fun A outer s H E f c' hr => (pe_callH L.plus (hr.mono (by decide)) (by rfl) (passes_call (W := fun cls d _ H => E cls d H) (takes_of rfl rfl rfl rfl) (fun _ _ _ _ h => h)) (pa_cons (pv 1) (pa_cons (pv 5) pa_nil)))) pa_nil))), ?_⟩
  intro D B H p r vo vd d dd n ps o3 o4 h od no F q
  obtain ⟨xs0, f1, f2, f3⟩ := id F
  have tH : LamX.Tabs T' H := h.tabs.ext wo_sub
  refine ⟨_, rfl, .inl ⟨rfl, _, SqL.of f1⟩, tH, fun H1 e1 t1 => ?_⟩
  have h1 := h.extR f1 e1 t1
  exact ⟨_, rfl, _, rfl, vo, vd, d, dd, rfl, h1.thOne, od.ok, fun e => od.not e, fun n1 ps1 _ => ⟨h1.thOdd, no.ok, fun _ => met_sum t1 fun a H2 s2 t2 ha => (let ⟨xs, x1, x2, x3, x4⟩ := app_fin h F (by decide) (e1.trans (LamX.ExtN.of s2)) t2 ha; ⟨r, xs, .ref a, rfl, rfl, x1, x2, q _ x3 x4⟩), fun m qs e => no.not e⟩⟩
theorem rr6 (L : TR P w K mg base CS CN CW) (TB : LamX.TabB base mg c tb) (hmT : (tb, qRef) ∈ T') (hu : ∀ p ∈ T', p.1 = tb → p.2 = qRef) (hr : Room 15 (XR P w K mg base f c A outer s H0 E).A) : ∃ t, PS (XR P w K mg base f c A outer s H0 E) (rb 6) t ∧
    ∀ (D : Ends) (B H : Hp) (p r : Addr) (vo vd : V) (d dd : PyData) (n : Int) (ps : Mul) (o3 o4 : Option V), Rf K T' B p vo d vd dd (wo H r) → OneD d n ps → NoS dd → Fnd H r vd 2 →
      (∀ H', Rf K T' B p vo d vd dd (wo H' r) → Fnd H' r vd 3 → D.nx (sgr p vo (some (.ref r)) o3 o4 (some vd)) H') → t D (sgr p vo (some (.ref r)) o3 o4 (some vd)) H := by
  refine ⟨_, (ps_expr (pe_bm PySem.F.plainAttrs_list PySem.F.slot_list_append PySem.F.type_list_append mt_append (pv 2) (pa_cons (pe_met (k := 12) L.met (by rfl) TB rfl hmT hu (hr.mono (by decide)) (LamX.lamS_by (show LamX.lamSB (defScope sRef) _ = true by decide +kernel)) rfl (fun _ _ _ _ _ => rfl) fun A outer s H E f c' hr => (pe_callH L.minus (hr.mono (by decide)) (by rfl) (passes_call (W := fun cls d _ H => E cls d H) (takes_of rfl rfl rfl rfl) (fun _ _ _ _ h => h)) (pa_cons (pv 5) (pa_cons pe_non pa_nil)))) pa_nil))), ?_⟩
  intro D B H p r vo vd d dd n ps o3 o4 h od no F q
  obtain ⟨xs0, f1, f2, f3⟩ := id F
  have tH : LamX.Tabs T' H := h.tabs.ext wo_sub
  refine ⟨_, rfl, .inl ⟨rfl, _, SqL.of f1⟩, tH, fun H1 e1 t1 => ?_⟩
  have h1 := h.extR f1 e1 t1
  exact ⟨_, rfl, vd, .non, dd, .none, rfl, h1.thOdd, no.ok, fun _ => met_sum t1 fun a H2 s2 t2 ha => (let ⟨xs, x1, x2, x3, x4⟩ := app_fin h F (by decide) (e1.trans (LamX.ExtN.of s2)) t2 ha; ⟨r, xs, .ref a, rfl, rfl, x1, x2, q _ x3 x4⟩), fun n1 ps1 e => no.not e⟩
theorem rr7 (L : TR P w K mg base CS CN CW) (TB : LamX.TabB base mg c tb) (hmT : (tb, qRef) ∈ T') (hu : ∀ p ∈ T', p.1 = tb → p.2 = qRef) (hr : Room 15 (XR P w K mg base f c A outer s H0 E).A) : ∃ t, PS (XR P w K mg base f c A outer s H0 E) (rb 7) t ∧
    ∀ (D : Ends) (B H : Hp) (p r : Addr) (vo vd : V) (d dd : PyData) (n : Int) (ps : Mul) (o3 o4 : Option V), Rf K T' B p vo d vd dd (wo H r) → OneD d n ps → NoS dd → Fnd H r vd 3 →
      (∀ H', Rf K T' B p vo d vd dd (wo H' r) → Fnd H' r vd 4 → D.nx (sgr p vo (some (.ref r)) o3 o4 (some vd)) H') → t D (sgr p vo (some (.ref r)) o3 o4 (some vd)) H := by
  refine ⟨_, (ps_expr (pe_bm PySem.F.plainAttrs_list PySem.F.slot_list_append PySem.F.type_list_append mt_append (pv 2) (pa_cons (pe_met (k := 12) L.met (by rfl) TB rfl hmT hu (hr.mono (by decide)) (LamX.lamS_by (show LamX.lamSB (defScope sRef) _ = true by decide +kernel)) rfl (fun _ _ _ _ _ => rfl) fun A outer s H E f c' hr => (pe_callH L.times (hr.mono (by decide)) (by rfl) (passes_call (W := fun cls d _ H => E cls d H) (takes_of rfl rfl rfl rfl) (fun _ _ _ _ h => h)) (pa_cons (pv 5) (pa_cons pe_non pa_nil)))) pa_nil))), ?_⟩
  intro D B H p r vo vd d dd n ps o3 o4 h od no F q
  obtain ⟨xs0, f1, f2, f3⟩ := id F
  have tH : LamX.Tabs T' H := h.tabs.ext wo_sub
  refine ⟨_, rfl, .inl ⟨rfl, _, SqL.of f1⟩, tH, fun H1 e1 t1 => ?_⟩
  have h1 := h.extR f1 e1 t1
  exact ⟨_, rfl, vd, .non, dd, .none, rfl, h1.thOdd, no.ok, fun _ => met_sum t1 fun a H2 s2 t2 ha => (let ⟨xs, x1, x2, x3, x4⟩ := app_fin h F (by decide) (e1.trans (LamX.ExtN.of s2)) t2 ha; ⟨r, xs, .ref a, rfl, rfl, x1, x2, q _ x3 x4⟩), fun n1 ps1 e => no.not e⟩
theorem rr8 (L : TR P w K mg base CS CN CW) (TB : LamX.TabB base mg c tb) (hmT : (tb, qRef) ∈ T') (hu : ∀ p ∈ T', p.1 = tb → p.2 = qRef) (hr : Room 15 (XR P w K mg base f c A outer s H0 E).A) : ∃ t, PS (XR P w K mg base f c A outer s H0 E) (rb 8) t ∧
    ∀ (D : Ends) (B H : Hp) (p r : Addr) (vo vd : V) (d dd : PyData) (n : Int) (ps : Mul) (o3 o4 : Option V), Rf K T' B p vo d vd dd (wo H r) → OneD d n ps → NoS dd → Fnd H r vd 4 →
      (∀ H', Rf K T' B p vo d vd dd (wo H' r) → Fnd H' r vd 5 → D.nx (sgr p vo (some (.ref r)) o3 o4 (some vd)) H') → t D (sgr p vo (some (.ref r)) o3 o4 (some vd)) H := by
  refine ⟨_, (ps_expr (pe_bm PySem.F.plainAttrs_list PySem.F.slot_list_append PySem.F.type_list_append mt_append (pv 2) (pa_cons (pe_met (k := 12) L.met (by rfl) TB rfl hmT hu (hr.mono (by decide)) (LamX.lamS_by (show LamX.lamSB (defScope sRef) _ = true by decide +kernel)) rfl (fun _ _ _ _ _ => rfl) fun A outer s H E f c' hr => (pe_callH L.putIn (hr.mono (by decide)) (by rfl) (passes_call (W := fun cls d _ H => E cls d H) (takes_of rfl rfl rfl rfl) (fun _ _ _ _ h => h)) (pa_cons (pv 5) (pa_cons pe_non pa_nil)))) pa_nil))), ?_⟩
  intro D B H p r vo vd d dd n ps o3 o4 h od no F q
  obtain ⟨xs0, f1, f2, f3⟩ := id F
  have tH : LamX.Tabs T' H := h.tabs.ext wo_sub
  refine ⟨_, rfl, .inl ⟨rfl, _, SqL.of f1⟩, tH, fun H1 e1 t1 => ?_⟩
  have h1 := h.extR f1 e1 t1
  exact ⟨_, rfl, vd, .non, dd, rfl, h1.thOdd, no.ok, fun _ => met_sum t1 fun a H2 s2 t2 ha => (let ⟨xs, x1, x2, x3, x4⟩ := app_fin h F (by decide) (e1.trans (LamX.ExtN.of s2)) t2 ha; ⟨r, xs, .ref a, rfl, rfl, x1, x2, q _ x3 x4⟩), fun n1 ps1 e => no.not e⟩
theorem rr9 (L : TR P w K mg base CS CN CW) (TB : LamX.TabB base mg c tb) (hmT : (tb, qRef) ∈ T') (hu : ∀ p ∈ T', p.1 = tb → p.2 = qRef) (hr : Room 15 (XR P w K mg base f c A outer s H0 E).A) : ∃ t, PS (XR P w K mg base f c A outer s H0 E) (rb 9) t ∧
    ∀ (D : Ends) (B H : Hp) (p r : Addr) (vo vd : V) (d dd : PyData) (n : Int) (ps : Mul) (o3 o4 : Option V), Rf K T' B p vo d vd dd (wo H r) → OneD d n ps → NoS dd → Fnd H r vd 5 →
      (∀ H', Rf K T' B p vo d vd dd (wo H' r) → Fnd H' r vd 6 → D.nx (sgr p vo (some (.ref r)) o3 o4 (some vd)) H') → t D (sgr p vo (some (.ref r)) o3 o4 (some vd)) H := by
  refine ⟨_, (ps_expr (pe_bm PySem.F.plainAttrs_list PySem.F.slot_list_append PySem.F.type_list_append mt_append (pv 2) (pa_cons (pe_met (k := 12) L.met (by rfl) TB rfl hmT hu (hr.mono (by decide)) (LamX.lamS_by (show LamX.lamSB (defScope sRef) _ = true by decide +kernel)) rfl (fun _ _ _ _ _ => rfl) fun A outer s H E f c' hr => (pe_callH L.unks (hr.mono (by decide)) (by rfl) (passes_call (W := fun cls d _ H => E cls d H) (takes_of rfl rfl rfl rfl) (fun _ _ _ _ h => h)) (pa_cons (pv 5) pa_nil))) pa_nil))), ?_⟩
  intro D B H p r vo vd d dd n ps o3 o4 h od no F q
  obtain ⟨xs0, f1, f2, f3⟩ := id F
  have tH : LamX.Tabs T' H := h.tabs.ext wo_sub
  refine ⟨_, rfl, .inl ⟨rfl, _, SqL.of f1⟩, tH, fun H1 e1 t1 => ?_⟩
  have h1 := h.extR f1 e1 t1
  exact ⟨_, rfl, vd, dd, rfl, h1.thOdd, no.ok, fun _ => met_sum t1 fun a H2 s2 t2 ha => (let ⟨xs, x1, x2, x3, x4⟩ := app_fin h F (by decide) (e1.trans (LamX.ExtN.of s2)) t2 ha; ⟨r, xs, .ref a, rfl, rfl, x1, x2, q _ x3 x4⟩), fun n1 ps1 e => no.not e⟩
theorem rr10 (L : TR P w K mg base CS CN CW) (TB : LamX.TabB base mg c tb) (hmT : (tb, qRef) ∈ T') (hu : ∀ p ∈ T', p.1 = tb → p.2 = qRef) (hr : Room 15 (XR P w K mg base f c A outer s H0 E).A) : ∃ t, PS (XR P w K mg base f c A outer s H0 E) (rb 10) t ∧
    ∀ (D : Ends) (B H : Hp) (p r : Addr) (vo vd : V) (d dd : PyData) (n : Int) (ps : Mul) (o3 o4 : Option V), Rf K T' B p vo d vd dd (wo H r) → OneD d n ps → NoS dd → Fnd H r vd 6 →
      (∀ H', Rf K T' B p vo d vd dd (wo H' r) → Fnd H' r vd 7 → D.nx (sgr p vo (some (.ref r)) o3 o4 (some vd)) H') → t D (sgr p vo (some (.ref r)) o3 o4 (some vd)) H := by
  refine ⟨_, (ps_expr (pe_bm PySem.F.plainAttrs_list PySem.F.slot_list_append PySem.F.type_list_append mt_append (pv 2) (pa_cons (pe_met (k := 12) L.met (by rfl) TB rfl hmT hu (hr.mono (by decide)) (LamX.lamS_by (show LamX.lamSB (defScope sRef) _ = true by decide +kernel)) rfl (fun _ _ _ _ _ => rfl) fun A outer s H E f c' hr => (pe_callH L.addr (hr.mono (by decide)) (by rfl) (passes_call (W := fun cls d _ H => E cls d H) (takes_of rfl rfl rfl rfl) (fun _ _ _ _ h => h)) (pa_cons (pv 5) pa_nil))) pa_nil))), ?_⟩
  intro D B H p r vo vd d dd n ps o3 o4 h od no F q
  obtain ⟨xs0, f1, f2, f3⟩ := id F
  have tH : LamX.Tabs T' H := h.tabs.ext wo_sub
  refine ⟨_, rfl, .inl ⟨rfl, _, SqL.of f1⟩, tH, fun H1 e1 t1 => ?_⟩
  have h1 := h.extR f1 e1 t1
  exact ⟨_, rfl, vd, dd, rfl, h1.thOdd, no.ok, fun _ => met_sum t1 fun a H2 s2 t2 ha => (let ⟨xs, x1, x2, x3, x4⟩ := app_fin h F (by decide) (e1.trans (LamX.ExtN.of s2)) t2 ha; ⟨r, xs, .ref a, rfl, rfl, x1, x2, q _ x3 x4⟩), fun n1 ps1 e => no.not e⟩
theorem rr11 (hr : Room 15 (XR P w K mg base f c A outer s H0 E).A) : ∃ t, PS (XR P w K mg base f c A outer s H0 E) (rb 11) t ∧
    ∀ (D : Ends) (B H : Hp) (p r : Addr) (vo vd : V) (d dd : PyData) (o3 o4 : Option V), Rf K T' B p vo d vd dd (wo H r) → Fnd H r vd 7 →
      (∀ H', Rf K T' B p vo d vd dd H' → D.nx (sgr p vo (some (.ref r)) o3 o4 (some vd)) H') → t D (sgr p vo (some (.ref r)) o3 o4 (some vd)) H := by
  refine ⟨_, (ps_if (pt_cmpR (op_neS hr) (pv 2) (pe_op op_rep (pe_lst (pa_cons (pe_tup (pa_cons pe_str (pa_cons (pv 5) pa_nil))) pa_nil)) pe_int) (nomark _)) (pss_one (ps_ret pe_bl)) pss_nil), ?_⟩
  intro D B H p r vo vd d dd o3 o4 h F q
  obtain ⟨xs, f1, f2, f3⟩ := F
  refine ⟨_, rfl, _, rfl, (by show 2 ≤ sizeLine; decide), fun p1 n1 => ⟨(by show 1 ≤ sizeLine; decide), fun p2 n2 => ?_⟩⟩
  have s1 := same_new (o := .tup [V.str "sum", vd]) n1
  have g1 : upd H p1 (.tup [V.str "sum", vd]) p1 = some (.tup [V.str "sum", vd]) := upd_same
  generalize upd H p1 (.tup [V.str "sum", vd]) = H1 at s1 g1 n2 ⊢
  have s2 := same_new (o := .lst [V.ref p1]) n2
  have g2 : upd H1 p2 (.lst [V.ref p1]) p2 = some (.lst [V.ref p1]) := upd_same
  generalize upd H1 p2 (.lst [V.ref p1]) = H2 at s2 g2 ⊢
  refine ⟨p2, 7, _, rfl, rfl, g2, by decide, by decide, (by show 1 * 7 ≤ sizeLine; decide), fun p3 n3 => ?_⟩
  have s3 := same_new (o := .lst (List.replicate (Int.toNat 7) [V.ref p1]).flatten) n3
  have S := (s1.trans s2).trans s3
  have g3 : upd H2 p3 (.lst (List.replicate (Int.toNat 7) [V.ref p1]).flatten) p3 = some (.lst (List.replicate (Int.toNat 7) [V.ref p1]).flatten) := upd_same
  have k1 := (s2.trans s3) _ _ g1
  generalize upd H2 p3 (.lst (List.replicate (Int.toNat 7) [V.ref p1]).flatten) = H3 at S g3 k1 ⊢
  have hv : flatB vd = true ∨ ∃ c, vd = .ref c := by
    cases h.odd with
    | dct _ => exact .inr ⟨_, rfl⟩
    | dat hd => cases hd with
      | non => exact .inl rfl
      | bl b => exact .inl rfl
      | int i => exact .inl rfl
      | str x => exact .inl rfl
      | lst _ _ => exact .inr ⟨_, rfl⟩
      | tup _ _ => exact .inr ⟨_, rfl⟩
  have each : ∀ (k : Nat) (ys : List V), ys.length = k → (∀ y ∈ ys, ∃ a, y = .ref a ∧ H a = some (.tup [.str "sum", vd])) → PySem.W.EachIs (PairS K H3) ys (List.replicate k [V.ref p1]).flatten := by
    intro k
    induction k with
    | zero =>
      intro ys hl _
      rw [List.eq_nil_of_length_eq_zero hl]
      exact .nil
    | succ k ih =>
      intro ys hl hy
      cases ys with
      | nil => cases hl
      | cons y ys =>
        obtain ⟨a, rfl, ha⟩ := hy y (List.mem_cons_self ..)
        rw [List.replicate_succ, List.flatten_cons]
        exact .cons ⟨a, p1, "sum", vd, vd, rfl, rfl, SqT.of (S _ _ ha), SqT.of k1, .inl ⟨rfl, hv⟩⟩ (ih ys (by simpa using hl) fun y hy' => hy y (List.mem_cons_of_mem _ hy'))
  refine ⟨r, p3, xs, _, rfl, rfl, SqL.of (S _ _ f1), SqL.of g3, each 7 xs f2 f3, _, rfl, iteF (q _ ?_)⟩
  exact (h.ext (LamX.ExtN.of wo_sub) (h.tabs.ext wo_sub)).ext (LamX.ExtN.of S) ((h.tabs.ext wo_sub).ext S)
end
end DR

namespace DR
open PySem PySem.Spec PyProof.Rows L2
/-! ### _law_refused_right: the second half -/
theorem tabs_keep {T : List (Addr × Str)} {H H' : Hp} {p : Addr} {xs : List V} (h : LamX.Tabs T H) (hp : H p = some (.lst xs)) (k : Keep p H H') : LamX.Tabs T H' := fun q hq => by
  obtain ⟨ps, h1, h2, h3⟩ := h q hq
  refine ⟨ps, k _ _ (fun z => by rw [z, hp] at h1; cases h1) h1, h2, fun pos cv e => ?_⟩
  obtain ⟨c, e1, e2⟩ := h3 pos cv e
  exact ⟨c, e1, k _ _ (fun z => by rw [z, hp] at e2; cases e2) e2⟩
theorem tabs_pool {T : List (Addr × Str)} {H H' : Hp} {p : Addr} {c : Nat} (h : LamX.Tabs T H) (hp : Pool H p c) (k : Keep p H H') : LamX.Tabs T H' := by
  obtain ⟨_, _, _, e, _⟩ := hp.ex
  exact tabs_keep h e k
structure Rg (K : PySem.W.Frag) (T' : List (Addr × Str)) (B : Hp) (p : Addr) (vo : V) (d : PyData) (l : List (V × PyData)) (c : Nat) (H : Hp) : Prop where
  tabs : LamX.Tabs T' H
  one : Dp K (wo H p) vo d
  all : ∀ x ∈ l, Th K (wo H p) x.1 x.2
  keep : LamX.ExtN (wo B p) (wo H p)
  pool : Pool H p c
section
variable {K : PySem.W.Frag} {T' : List (Addr × Str)} {B H H' : Hp} {p r : Addr} {vo : V} {d : PyData} {l : List (V × PyData)} {c c' : Nat}
theorem Rg.ext (h : Rg K T' B p vo d l c H) (e : LamX.ExtN H H') (t : LamX.Tabs T' H') : Rg K T' B p vo d l c H' :=
  ⟨t, dp_ext (ext_wo e) h.one, fun x hx => th_ext (ext_wo e) (h.all x hx), h.keep.trans (ext_wo e), pool_ext e h.pool⟩
theorem Rg.same (h : Rg K T' B p vo d l c H) (e : Same H H') : Rg K T' B p vo d l c H' := h.ext (LamX.ExtN.of e) (h.tabs.ext e)
theorem Rg.extR {xs : List V} (h : Rg K T' B p vo d l c (wo H r)) (hr : H r = some (.lst xs)) (e : LamX.ExtN H H') (t : LamX.Tabs T' H') : Rg K T' B p vo d l c (wo H' r) :=
  h.ext (ext_wo e) (tabs_wo t (e _ _ hr (by intro x z; cases z)))
theorem Rg.drawn (h : Rg K T' B p vo d l c H) (k : Keep p H H') (pl : Pool H' p c') : Rg K T' B p vo d l c' H' := by
  have e := wo_dr (p := p) k
  exact ⟨tabs_pool h.tabs h.pool k, dp_same e h.one, fun x hx => th_same e (h.all x hx), h.keep.trans (LamX.ExtN.of e), pl⟩
theorem Rg.more (h : Rg K T' B p vo d l c H) {v : V} {e : PyData} (t : Th K (wo H p) v e) : Rg K T' B p vo d ((v, e) :: l) c H :=
  ⟨h.tabs, h.one, fun x hx => by
    rcases List.mem_cons.mp hx with rfl | hx
    · exact t
    · exact h.all x hx, h.keep, h.pool⟩
theorem Rg.up (h : Rg K T' B p vo d l c (wo H r)) : Rg K T' B p vo d l c H := h.same wo_sub
theorem Rf.rg {vd : V} {dd : PyData} (h : Rf K T' B p vo d vd dd H) : ∃ c, c < 2000 ∧ Rg K T' B p vo d [(vd, dd)] c H := by
  obtain ⟨c, h1, h2⟩ := h.pool
  exact ⟨c, h2, h.tabs, h.one, fun x hx => by rw [List.mem_singleton.mp hx]; exact h.odd, h.keep, h1⟩
end
/-- one of a list of things that are made, drawn -/
theorem one_go {K : PySem.W.Frag} {t : TA} {ds : List PyData} {σ : L2.St} {H : Hp} {p : Addr} {c : Nat} {Q : VK} {E : XK} (h0 : σ[0]? = some (some (.ref p))) (pl : Pool H p c) (hc : c < 3000) (m : MkTs K t ds) (hl : ds.length ≤ 1000) (hl0 : 0 < ds.length)
    (q : ∀ H' v d, Keep p H H' → Pool H' p (c + 1) → Th K (wo H' p) v d → d ∈ ds → Q v H') : tCall (spOne K) [] E (tCons (tVar 0) (tCons (tLst t) tNil)) σ H Q := by
  refine ⟨_, h0, lstT_go (K := K) (B := H) (Same.refl H) m hl fun H1 b ys s1 nb h1 => ?_⟩
  have pl1 := pool_same s1 pl
  obtain ⟨_, _, _, eB, _⟩ := pl.ex
  have bp : b ≠ p := fun z => by
    rw [z, eB] at nb
    cases nb
  have ly := h1.each.length
  refine ⟨p, b, c, ys, rfl, pl1, by omega, .inl (SqL.of h1.lst), bp, by omega, by omega, fun v o hv pl2 => ?_⟩
  obtain ⟨d, hd, th⟩ := each_at h1.each hv
  exact q _ v d (fun b x hb e => by rw [upd_ne hb]; exact s1 _ _ e) pl2 (th_same (nw_wo eB fun b x hb e => by rw [upd_ne hb]; exact e) th) hd
def numL : List PyData := [.none, (.bool true), (.str "2"), (.tuple []), (.dict [])]
def keyL : List PyData := [.none, (.int 5), (.tuple [(.str "in"), (.int 0)]), (.tuple [(.str "in"), (.bool true)]), (.str "a"), (.tuple [(.str "piece"), (.str "")]), (.tuple [(.str "x"), (.str "a")]), (.tuple [(.str "piece")]), (.tuple [(.str "piece"), (.int 5)])]
theorem numL_no : ∀ d ∈ numL, isI d = false := by decide
/-- a key that is none -/
def kb2 : NestedKey := .tup [.text sIn, .num 2]
def kb3 : NestedKey := .tup [.text sIn, .num 3]
def keyB (d : PyData) : Bool := shortPB d && ((readUnk d).isNone && (match nkOf d with
  | some k => decide (k.depth ≤ 8) && (!decide (k = kb2) && !decide (k = kb3))
  | none => false))
structure KeyBad (d : PyData) : Prop where
  sh : shortP d
  no : readUnk d = none
  nk : ∃ k, nkOf d = some k ∧ k.depth ≤ 8 ∧ k ≠ kb2 ∧ k ≠ kb3
theorem keyB_ok {d : PyData} (h : keyB d = true) : KeyBad d := by
  unfold keyB at h
  rw [Bool.and_eq_true, Bool.and_eq_true] at h
  obtain ⟨h1, h2, h3⟩ := h
  refine ⟨shortPB_ok h1, Option.isNone_iff_eq_none.mp h2, ?_⟩
  cases e : nkOf d with
  | none => rw [e] at h3; cases h3
  | some k =>
    rw [e] at h3
    have h3 : (decide (k.depth ≤ 8) && (!decide (k = kb2) && !decide (k = kb3))) = true := h3
    rw [Bool.and_eq_true, Bool.and_eq_true, Bool.not_eq_true', Bool.not_eq_true', decide_eq_true_iff, decide_eq_false_iff_not, decide_eq_false_iff_not] at h3
    exact ⟨k, rfl, h3.1, h3.2.1, h3.2.2⟩
theorem keyL_no : ∀ d ∈ keyL, KeyBad d := by
  have h : keyL.all keyB = true := by decide +kernel
  rw [List.all_eq_true] at h
  exact fun d hd => keyB_ok (h d hd)
section
variable {P : Program} {w : World} {K : PySem.W.Frag} {mg : Str → Option Value} {base : Heap} {CS CN CW f c tb : Addr} {T' : List (Addr × Str)} {A : Around} {outer : List Env} {s : Shared} {H0 : Hp} {E : XK}
theorem rr12 (L : TR P w K mg base CS CN CW) (hr : Room 15 (XR P w K mg base f c A outer s H0 E).A) : ∃ t, PS (XR P w K mg base f c A outer s H0 E) (rb 12) t ∧
    ∀ (D : Ends) (B H : Hp) (p : Addr) (vo : V) (d : PyData) (l : List (V × PyData)) (cc : Nat) (o2 o3 o4 o5 : Option V), Rg K T' B p vo d l cc H → cc < 2000 →
      (∀ H' vn dn, Rg K T' B p vo d ((vn, dn) :: l) (cc + 1) H' → isI dn = false → D.nx (sgr p vo o2 o3 (some vn) o5) H') → t D (sgr p vo o2 o3 o4 o5) H := by
  refine ⟨_, ps_set (i := 4) scRef.nd rfl (.inr rfl) (pe_callH L.one (hr.mono (by decide)) (by rfl) pass0 (pa_cons (pv 0) (pa_cons (pe_lst (pa_cons pe_non (pa_cons pe_bl (pa_cons pe_str (pa_cons (pe_tup pa_nil) (pa_cons pe_dnewK pa_nil)))))) pa_nil))), ?_⟩
  intro D B H p vo d l cc o2 o3 o4 o5 h hc q
  exact one_go (K := K) (ds := numL) rfl h.pool (by omega) (by repeat' (first | exact mk_non | exact mk_bl | exact mk_int | exact mk_str | exact mk_eq | exact mkds_nil | exact mkts_nil | exact mkt_dct | refine mkds_cons ?_ ?_ | refine mkts_cons ?_ ?_ | refine mk_tup ?_ (by decide) | refine mk_lst ?_ (by decide) | refine mkt_dat ?_)) (by decide) (by decide) fun H1 v dn k1 pl th hd => q H1 v dn ((h.drawn k1 pl).more th) (numL_no dn hd)
theorem rr13 (L : TR P w K mg base CS CN CW) (hr : Room 15 (XR P w K mg base f c A outer s H0 E).A) : ∃ t, PS (XR P w K mg base f c A outer s H0 E) (rb 13) t ∧
    ∀ (D : Ends) (B H : Hp) (p : Addr) (vo : V) (d : PyData) (l : List (V × PyData)) (cc : Nat) (o2 o3 o4 o5 : Option V), Rg K T' B p vo d l cc H → cc < 2001 →
      (∀ H' vk dk, Rg K T' B p vo d ((vk, dk) :: l) (cc + 1) H' → KeyBad dk → D.nx (sgr p vo o2 (some vk) o4 o5) H') → t D (sgr p vo o2 o3 o4 o5) H := by
  refine ⟨_, ps_set (i := 3) scRef.nd rfl (.inr rfl) (pe_callH L.one (hr.mono (by decide)) (by rfl) pass0 (pa_cons (pv 0) (pa_cons (pe_lst (pa_cons pe_non (pa_cons pe_int (pa_cons (pe_tup (pa_cons pe_str (pa_cons pe_int pa_nil))) (pa_cons (pe_tup (pa_cons pe_str (pa_cons pe_bl pa_nil))) (pa_cons pe_str (pa_cons (pe_tup (pa_cons pe_str (pa_cons pe_str pa_nil))) (pa_cons (pe_tup (pa_cons pe_str (pa_cons pe_str pa_nil))) (pa_cons (pe_tup (pa_cons pe_str pa_nil)) (pa_cons (pe_tup (pa_cons pe_str (pa_cons pe_int pa_nil))) pa_nil)))))))))) pa_nil))), ?_⟩
  intro D B H p vo d l cc o2 o3 o4 o5 h hc q
  exact one_go (K := K) (ds := keyL) rfl h.pool (by omega) (by repeat' (first | exact mk_non | exact mk_bl | exact mk_int | exact mk_str | exact mk_eq | exact mkds_nil | exact mkts_nil | exact mkt_dct | refine mkds_cons ?_ ?_ | refine mkts_cons ?_ ?_ | refine mk_tup ?_ (by decide) | refine mk_lst ?_ (by decide) | refine mkt_dat ?_)) (by decide) (by decide) fun H1 v dk k1 pl th hd => q H1 v dk ((h.drawn k1 pl).more th) (keyL_no dk hd)
end
end DR

namespace DR
open PySem PySem.Spec PyProof.Rows L2
/-! ### _law_refused_right: the second half, run -/
def FndL (H : Hp) (r : Addr) (l : List (Str × V)) : Prop := ∃ xs, H r = some (.lst xs) ∧ PySem.W.EachIs (fun y q => ∃ a, y = .ref a ∧ H a = some (.tup [.str q.1, q.2])) xs l
theorem FndL.app {H H2 : Hp} {p r a : Addr} {l : List (Str × V)} {z : Str} {v : V} (F : FndL H r l) (hl : l.length ≤ 20) (k : ∀ b xs, b ≠ p → H b = some (.lst xs) → H2 b = some (.lst xs)) (kt : ∀ b xs, H b = some (.tup xs) → H2 b = some (.tup xs)) (rp : r ≠ p) (ha : H2 a = some (.tup [.str z, v])) :
    ∃ xs, H2 r = some (.lst xs) ∧ xs.length < sizeLine ∧ FndL (upd H2 r (.lst (xs ++ [.ref a]))) r (l ++ [(z, v)]) := by
  obtain ⟨xs, h1, h2⟩ := F
  have hr2 := k _ _ rp h1
  have hl2 := h2.length
  have off : ∀ {b : Addr} {z : List V}, H2 b = some (.tup z) → upd H2 r (.lst (xs ++ [.ref a])) b = some (.tup z) := fun hb => by
    rw [upd_ne (fun z => by rw [z, hr2] at hb; cases hb)]
    exact hb
  exact ⟨xs, hr2, small1000 (by omega), xs ++ [.ref a], upd_same, eachs_app2 (eachs_imp (fun y q ⟨b, e1, e2⟩ => ⟨b, e1, off (kt _ _ e2)⟩) h2) (.cons ⟨a, rfl, off ha⟩ .nil)⟩
theorem met_num {CS CN CW : Addr} {v : V} {Q : VK} {H1 H' : Hp} {dx : Addr} (s : Same H1 H') (hdx : H' dx = none) (q : ∀ a H2, Same H1 H2 → H2 a = some (.tup [.str "number", v]) → Q (.ref a) H2) : MetE CS CN CW Q (.ref CN) (some dx) (upd H' dx (.xd [("number", v)])) := by
  refine .inr (.inl ⟨dx, v, rfl, rfl, upd_same, fun p hp => ?_⟩)
  exact q _ _ ((s.trans (same_new (o := .xd [("number", v)]) hdx)).trans (same_new (o := .tup [.str "number", v]) hp)) upd_same
theorem met_worth {CS CN CW : Addr} {v : V} {Q : VK} {H1 H' : Hp} {dx : Addr} (s : Same H1 H') (hdx : H' dx = none) (q : ∀ a H2, Same H1 H2 → H2 a = some (.tup [.str "worths", v]) → Q (.ref a) H2) : MetE CS CN CW Q (.ref CW) (some dx) (upd H' dx (.xd [("key", v)])) := by
  refine .inr (.inr ⟨dx, v, rfl, rfl, upd_same, fun p hp => ?_⟩)
  exact q _ _ ((s.trans (same_new (o := .xd [("key", v)]) hdx)).trans (same_new (o := .tup [.str "worths", v]) hp)) upd_same
/-- three worths of which the second is none -/
theorem bad2 {K : PySem.W.Frag} {P : Program} {w : World} {CW : Addr} {H : Hp} {D : Addr} {x y z : NestedKey × V × V} {dx dy dz : PyData × PyData} {g : Go} {Q : VK} {E : XK} (hD : H D = some (MapO P w D [x, y, z])) (wx : WR K H x dx) (wy : WR K H y dy) (wz : WR K H z dz) (h0 : ∃ b, x.2.1 = .ref b) (gx : GoodW dx g) (hy : readUnk dy.1 = none ∨ readSum dy.2 = none)
    (e : ∀ H' dd, (∀ b u, b ≠ D → H b = some u → H' b = some u) → H' dd = none → E (.ref CW) (some dd) (upd H' dd (.xd [("key", y.2.1)]))) : spReadW K P w CW [.ref D] H Q E := by
  have ny : ∀ g', ¬ GoodW dy g' := fun g' ⟨h1, h2⟩ => by
    rcases hy with h | h
    · rw [h] at h1; cases h1
    · rw [h] at h2; cases h2
  have no2 : ∀ {l : List (PyData × PyData)} {gs : List Go}, PySem.W.EachIs GoodW (dx :: dy :: l) gs → False := fun h => by
    cases h with
    | cons _ h => cases h with
      | cons h _ => exact ny _ h
  refine ⟨.ref D, rfl, .inr ⟨D, [x, y, z], [dx, dy, dz], rfl, hD, .cons wx (.cons wy (.cons wz .nil)), fun kv hkv => ?_, (by show 3 ≤ 20; decide), fun i gs h => ?_, fun i kv d gs hk hd hg hb H' dd k hdd => ?_, fun gs h => (no2 h).elim⟩⟩
  · obtain rfl : x = kv := Option.some.inj hkv
    exact h0
  · match i, h with
    | 0, h =>
      have h : PySem.W.EachIs GoodW [] gs := h
      cases h
      exact List.nodup_nil
    | 1, h =>
      have h1 : PySem.W.EachIs GoodW [dx] gs := h
      clear h
      cases h1 with
      | cons _ t1 =>
        have e := t1.length
        obtain rfl := List.eq_nil_of_length_eq_zero e.symm
        exact List.nodup_cons.mpr ⟨by simp, List.nodup_nil⟩
    | i + 2, h => exact (no2 h).elim
  · match i, hk, hd, hg with
    | 0, hk, hd, hg =>
      obtain rfl : dx = d := Option.some.inj hd
      rcases hb with h | h
      · rw [gx.1] at h; cases h
      · rw [gx.2] at h; cases h
    | 1, hk, hd, hg =>
      obtain rfl : y = kv := Option.some.inj hk
      exact e H' dd k hdd
    | i + 2, hk, hd, hg => exact (no2 hg).elim
def inD (i : Int) : PyData := .tuple [.str sIn, .int i]
theorem in_dp {K : PySem.W.Frag} {H : Hp} {a : Addr} {i : Int} (h : H a = some (.tup [.str "in", .int i])) : Dp K H (.ref a) (inD i) := .tup (SqT.of h) (.cons (.str _) (.cons (.int i) .nil))
theorem in_nk (i : Int) : nkOf (inD i) = some (.tup [.text sIn, .num i]) := by simp [inD, nkOf, nkAll]
theorem in_depth (i : Int) : (NestedKey.tup [.text sIn, .num i]).depth ≤ 8 := by simp [NestedKey.depth, NestedKey.depthAll]
theorem in_wr {K : PySem.W.Frag} {H : Hp} {a : Addr} {i : Int} {v : V} {e : PyData} (h : H a = some (.tup [.str "in", .int i])) (t : Th K H v e) (o : okSum e) : WR K H (.tup [.text sIn, .num i], .ref a, v) (inD i, e) :=
  ⟨in_dp h, in_nk i, in_depth i, ⟨by show (Str.ofString "in").length ≤ 1000; decide +kernel, trivial⟩, t, o⟩
theorem ok_int (i : Int) : okSum (.int i) := fun n q ds e _ => by cases e
theorem ok_non : okSum .none := fun n q ds e _ => by cases e
theorem th_dp {K : PySem.W.Frag} {H : Hp} {v : V} {d : PyData} {k : NestedKey} (t : Th K H v d) (e : nkOf d = some k) : Dp K H v d := by
  cases t with
  | dat h => exact h
  | dct h => cases (show (none : Option NestedKey) = some k by simpa [nkOf] using e)
theorem in_keyV {K : PySem.W.Frag} {H : Hp} {a : Addr} {i : Int} (h : H a = some (.tup [.str "in", .int i])) : KeyV K H (.ref a) (.tup [.text sIn, .num i]) := ⟨inD i, in_dp h, in_nk i, in_depth i⟩
theorem th_flat {K : PySem.W.Frag} {H : Hp} {v : V} {d : PyData} (h : Th K H v d) : flatB v = true ∨ ∃ c, v = .ref c := by
  cases h with
  | dct _ => exact .inr ⟨_, rfl⟩
  | dat hd => cases hd with
    | non => exact .inl rfl
    | bl b => exact .inl rfl
    | int i => exact .inl rfl
    | str x => exact .inl rfl
    | lst _ _ => exact .inr ⟨_, rfl⟩
    | tup _ _ => exact .inr ⟨_, rfl⟩
theorem ext_l {H H' : Hp} (e : LamX.ExtN H H') {p : Addr} : ∀ b xs, b ≠ p → H b = some (.lst xs) → H' b = some (.lst xs) := fun b xs _ h => e _ _ h (by intro x z; cases z)
theorem ext_t {H H' : Hp} (e : LamX.ExtN H H') : ∀ b xs, H b = some (.tup xs) → H' b = some (.tup xs) := fun b xs h => e _ _ h (by intro x z; cases z)
def wL : List PyData := [.none, (.int 5), (.list []), (.str "ab")]
theorem kb_dict : ∀ n ∈ ["NoneType", "int", "list", "str"], kitB n "dict" = some false := by decide +kernel
theorem wL_no {K : PySem.W.Frag} : ∀ d ∈ wL, PySem.W.kitOne K (.type (tyN d)) (.type "dict") = some false := fun d hd => by
  refine kit_ty (kb_dict _ ?_)
  simp only [wL, List.mem_cons, List.not_mem_nil, or_false] at hd
  rcases hd with rfl | rfl | rfl | rfl <;> decide
section
variable {P : Program} {w : World} {K : PySem.W.Frag} {mg : Str → Option Value} {base : Heap} {CS CN CW f c tb : Addr} {T' : List (Addr × Str)} {A : Around} {outer : List Env} {s : Shared} {H0 : Hp} {E : XK}
theorem rr14 (L : TR P w K mg base CS CN CW) (TB : LamX.TabB base mg c tb) (hmT : (tb, qRef) ∈ T') (hu : ∀ p ∈ T', p.1 = tb → p.2 = qRef) (hr : Room 15 (XR P w K mg base f c A outer s H0 E).A) : ∃ t, PS (XR P w K mg base f c A outer s H0 E) (rb 14) t ∧
    ∀ (D : Ends) (B H : Hp) (p : Addr) (vo : V) (d : PyData) (l : List (V × PyData)) (cc : Nat) (n : Int) (ps : Mul) (vn : V) (dn : PyData) (o2 o3 o5 : Option V), Rg K T' B p vo d l cc H → OneD d n ps → (vn, dn) ∈ l → isI dn = false →
      (∀ H' r, r ≠ p → Rg K T' B p vo d l cc (wo H' r) → FndL H' r [("number", vn)] → D.nx (sgr p vo (some (.ref r)) o3 (some vn) o5) H') → t D (sgr p vo o2 o3 (some vn) o5) H := by
  refine ⟨_, ps_set (i := 2) scRef.nd rfl (.inl rfl) (pe_lst (pa_cons (pe_met (k := 12)  L.met (by rfl) TB rfl hmT hu (hr.mono (by decide)) (LamX.lamS_by (show LamX.lamSB (defScope sRef) _ = true by decide +kernel)) rfl (fun _ _ _ _ _ => rfl) fun A outer s H E f c' hr => (pe_callH L.times (hr.mono (by decide)) (by rfl) (passes_call (W := fun cls d _ H => E cls d H) (takes_of rfl rfl rfl rfl) (fun _ _ _ _ h => h)) (pa_cons (pv 1) (pa_cons (pv 4) pa_nil)))) pa_nil)), ?_⟩
  intro D B H p vo d l cc n ps vn dn o2 o3 o5 h od hn hi q
  refine ⟨h.tabs, fun H1 e1 t1 => ?_⟩
  have h1 := h.ext e1 t1
  have thn := h1.all _ hn
  refine ⟨_, rfl, _, rfl, vo, vn, d, dn, rfl, .dat (dp_same wo_sub h1.one), od.ok, fun e => od.not e, fun n1 ps1 _ => ⟨th_same wo_sub thn, fun _ H' dx s' hdx => met_num s' hdx fun a H2 s2 ha => ⟨(by show 1 ≤ sizeLine; decide), fun r hr => ?_⟩, fun k e => ?_⟩⟩
  · have h2 := h1.same s2
    have rp : r ≠ p := fun z => by
      obtain ⟨_, _, _, e, _⟩ := h2.pool.ex
      rw [← z, hr] at e
      cases e
    have s3 := same_new (o := .lst [V.ref a]) hr
    refine q _ r rp ?_ ⟨[.ref a], upd_same, .cons ⟨a, rfl, s3 _ _ ha⟩ .nil⟩
    rw [wo_upd]
    exact h2.same (wo_none hr)
  · rw [e] at hi
    cases hi
theorem rr15 (L : TR P w K mg base CS CN CW) (TB : LamX.TabB base mg c tb) (hmT : (tb, qRef) ∈ T') (hu : ∀ p ∈ T', p.1 = tb → p.2 = qRef) (hr : Room 15 (XR P w K mg base f c A outer s H0 E).A) : ∃ t, PS (XR P w K mg base f c A outer s H0 E) (rb 15) t ∧
    ∀ (D : Ends) (B H : Hp) (p r : Addr) (vo : V) (d : PyData) (l : List (V × PyData)) (cc : Nat) (n : Int) (ps : Mul) (vk : V) (dk : PyData) (l1 : List (Str × V)) (o4 o5 : Option V), r ≠ p → Rg K T' B p vo d l cc (wo H r) → OneD d n ps → (vk, dk) ∈ l → KeyBad dk → FndL H r l1 → l1.length ≤ 20 →
      (∀ H', Rg K T' B p vo d l cc (wo H' r) → FndL H' r (l1 ++ ([("worths", vk)] : List (Str × V))) → D.nx (sgr p vo (some (.ref r)) (some vk) o4 o5) H') → t D (sgr p vo (some (.ref r)) (some vk) o4 o5) H := by
  refine ⟨_, (ps_expr (pe_bm PySem.F.plainAttrs_list PySem.F.slot_list_append PySem.F.type_list_append mt_append (pv 2) (pa_cons (pe_met (k := 12) (t := fun E => tCall (spPutIn K P w CS CW) [] E (tCons (tVar 1) (tCons (tCB (rDictV K P w) (tCons (tLst (tCons (tTup (tCons (tTup (tCons (tC (.str "in")) (tCons (tC (.int 2)) tNil))) (tCons (tC (.int 3)) tNil))) (tCons (tTup (tCons (tVar 3) (tCons (tC (.int 1)) tNil))) (tCons (tTup (tCons (tTup (tCons (tC (.str "in")) (tCons (tC (.int 3)) tNil))) (tCons (tC .non) tNil))) tNil)))) tNil)) tNil))) L.met (by rfl) TB rfl hmT hu (hr.mono (by decide)) (LamX.lamS_by (show LamX.lamSB (defScope sRef) _ = true by decide +kernel)) rfl (fun _ _ _ _ _ => rfl) fun A outer s H E f c' hr => (pe_callH L.putIn (hr.mono (by decide)) (by rfl) (passes_call (W := fun cls d _ H => E cls d H) (takes_of rfl rfl rfl rfl) (fun _ _ _ _ h => h)) (pa_cons (pv 1) (pa_cons (pe_callTy (call_dictV hr rfl) (by rfl) L.bi.dict (by decide +kernel) (pa_cons (pe_lst (pa_cons (pe_tup (pa_cons (pe_tup (pa_cons pe_str (pa_cons pe_int pa_nil))) (pa_cons pe_int pa_nil))) (pa_cons (pe_tup (pa_cons (pv 3) (pa_cons pe_int pa_nil))) (pa_cons (pe_tup (pa_cons (pe_tup (pa_cons pe_str (pa_cons pe_int pa_nil))) (pa_cons pe_non pa_nil))) pa_nil)))) pa_nil)) pa_nil)))) pa_nil))), ?_⟩
  intro D B H p r vo d l cc n ps vk dk l1 o4 o5 rp h od hk kb F hl1 q
  obtain ⟨xs0, f1, f2⟩ := id F
  refine ⟨_, rfl, .inl ⟨rfl, _, SqL.of f1⟩, h.up.tabs, fun H1 e1 t1 => ?_⟩
  have h1 := h.extR f1 e1 t1
  have thk : Th K H1 vk dk := th_same (wo_sub.trans wo_sub) (h1.all _ hk)
  obtain ⟨kk, nk, kd, k2, k3⟩ := kb.nk
  have dpk := th_dp thk nk
  refine ⟨_, rfl, sz2, fun a2 n2 => ?_⟩
  have s1 := same_new (o := .tup [V.str "in", V.int 2]) n2
  have g1 : upd H1 a2 (.tup [V.str "in", V.int 2]) a2 = some (.tup [V.str "in", V.int 2]) := upd_same
  generalize upd H1 a2 (.tup [V.str "in", V.int 2]) = J1 at s1 g1 ⊢
  refine ⟨sz2, fun b2 m2 => ?_⟩
  have s2 := same_new (o := .tup [V.ref a2, V.int 3]) m2
  have g2 : upd J1 b2 (.tup [V.ref a2, V.int 3]) b2 = some (.tup [V.ref a2, V.int 3]) := upd_same
  generalize upd J1 b2 (.tup [V.ref a2, V.int 3]) = J2 at s2 g2 ⊢
  refine ⟨_, rfl, sz2, fun b1 m1 => ?_⟩
  have s3 := same_new (o := .tup [vk, V.int 1]) m1
  have g3 : upd J2 b1 (.tup [vk, V.int 1]) b1 = some (.tup [vk, V.int 1]) := upd_same
  generalize upd J2 b1 (.tup [vk, V.int 1]) = J3 at s3 g3 ⊢
  refine ⟨sz2, fun a3 n3 => ?_⟩
  have s4 := same_new (o := .tup [V.str "in", V.int 3]) n3
  have g4 : upd J3 a3 (.tup [V.str "in", V.int 3]) a3 = some (.tup [V.str "in", V.int 3]) := upd_same
  generalize upd J3 a3 (.tup [V.str "in", V.int 3]) = J4 at s4 g4 ⊢
  refine ⟨sz2, fun b3 m3 => ?_⟩
  have s5 := same_new (o := .tup [V.ref a3, V.non]) m3
  have g5 : upd J4 b3 (.tup [V.ref a3, V.non]) b3 = some (.tup [V.ref a3, V.non]) := upd_same
  generalize upd J4 b3 (.tup [V.ref a3, V.non]) = J5 at s5 g5 ⊢
  refine ⟨(by show 3 ≤ sizeLine; decide), fun l0 n0 => ?_⟩
  have s6 := same_new (o := .lst [V.ref b2, V.ref b1, V.ref b3]) n0
  have g6 : upd J5 l0 (.lst [V.ref b2, V.ref b1, V.ref b3]) l0 = some (.lst [V.ref b2, V.ref b1, V.ref b3]) := upd_same
  generalize upd J5 l0 (.lst [V.ref b2, V.ref b1, V.ref b3]) = J6 at s6 g6 ⊢
  have s56 := s5.trans s6
  have s36 := (s4.trans s56)
  have s26 := (s3.trans s36)
  have S : Same H1 J6 := (s1.trans s2).trans s26
  have e2 := (s2.trans s26) _ _ g1
  have e3 := s56 _ _ g4
  have dk6 := dp_same S dpk
  refine ⟨l0, [b2, b1, b3], [(kb2, .ref a2, .int 3), (kk, vk, .int 1), (kb3, .ref a3, .non)], rfl, SqL.of g6, .cons ⟨SqT.of (s26 _ _ g2), in_keyV e2⟩ (.cons ⟨SqT.of (s36 _ _ g3), dk, dk6, nk, kd⟩ (.cons ⟨SqT.of (s6 _ _ g5), in_keyV e3⟩ .nil)), ?_, fun kv hkv => ?_, (by show 3 ≤ 1000; decide), fun D0 hD => ?_⟩
  · show [kb2, kk, kb3].Nodup
    have : kb2 ≠ kb3 := by decide
    simp [Ne.symm k2, k3, this]
  · exact ⟨a2, by rw [← Option.some.inj hkv]⟩
  · have sD := same_new (o := MapO P w D0 [(kb2, .ref a2, .int 3), (kk, vk, .int 1), (kb3, .ref a3, .non)]) hD
    refine ⟨vo, .ref D0, d, rfl, .dat (dp_same ((wo_sub.trans wo_sub).trans (S.trans sD)) h1.one), od.ok, fun e => od.not e, fun n1 ps1 _ H8 v1 s8 _ => ?_⟩
    have S8 := sD.trans s8
    refine bad2 (dx := (inD 2, .int 3)) (dy := (dk, .int 1)) (dz := (inD 3, .none)) (g := ([.inr sIn, .inl 2], 3, [])) (s8 _ _ upd_same) (in_wr (S8 _ _ e2) (.dat (.int 3)) (ok_int 3)) ⟨dp_same S8 dk6, nk, kd, kb.sh, .dat (.int 1), ok_int 1⟩ (in_wr (S8 _ _ e3) (.dat .non) ok_non) ⟨a2, rfl⟩ ⟨by decide +kernel, rfl⟩ (.inl kb.no) fun H' dd k hdd => ?_
    have S9 : Same J6 H' := fun b x e => k b x (ne_of_none e hD) (S8 _ _ e)
    refine met_worth S9 hdd fun a H2 s9 ha => ?_
    have E2 := e1.trans (LamX.ExtN.of (S.trans s9))
    obtain ⟨xs, x1, x2, x3⟩ := F.app hl1 (ext_l E2 (p := p)) (ext_t E2) rp ha
    refine ⟨r, xs, .ref a, rfl, rfl, x1, x2, q _ ?_ x3⟩
    rw [wo_upd]
    exact h.extR f1 E2 (t1.ext (S.trans s9))
theorem rr16 (L : TR P w K mg base CS CN CW) (TB : LamX.TabB base mg c tb) (hmT : (tb, qRef) ∈ T') (hu : ∀ p ∈ T', p.1 = tb → p.2 = qRef) (hr : Room 15 (XR P w K mg base f c A outer s H0 E).A) : ∃ t, PS (XR P w K mg base f c A outer s H0 E) (rb 16) t ∧
    ∀ (D : Ends) (B H : Hp) (p r : Addr) (vo : V) (d : PyData) (l : List (V × PyData)) (cc : Nat) (n : Int) (ps : Mul) (vk vd : V) (dk dd : PyData) (l1 : List (Str × V)) (o4 : Option V), r ≠ p → Rg K T' B p vo d l cc (wo H r) → OneD d n ps → (vk, dk) ∈ l → KeyBad dk → (vd, dd) ∈ l → NoS dd → FndL H r l1 → l1.length ≤ 20 →
      (∀ H' a3, Rg K T' B p vo d l cc (wo H' r) → FndL H' r (l1 ++ ([("worths", .ref a3)] : List (Str × V))) → H' a3 = some (.tup [.str "in", .int 3]) → D.nx (sgr p vo (some (.ref r)) (some vk) o4 (some vd)) H') → t D (sgr p vo (some (.ref r)) (some vk) o4 (some vd)) H := by
  refine ⟨_, (ps_expr (pe_bm PySem.F.plainAttrs_list PySem.F.slot_list_append PySem.F.type_list_append mt_append (pv 2) (pa_cons (pe_met (k := 12) (t := fun E => tCall (spPutIn K P w CS CW) [] E (tCons (tVar 1) (tCons (tCB (rDictV K P w) (tCons (tLst (tCons (tTup (tCons (tTup (tCons (tC (.str "in")) (tCons (tC (.int 2)) tNil))) (tCons (tC (.int 3)) tNil))) (tCons (tTup (tCons (tTup (tCons (tC (.str "in")) (tCons (tC (.int 3)) tNil))) (tCons (tVar 5) tNil))) (tCons (tTup (tCons (tVar 3) (tCons (tC (.int 1)) tNil))) tNil)))) tNil)) tNil))) L.met (by rfl) TB rfl hmT hu (hr.mono (by decide)) (LamX.lamS_by (show LamX.lamSB (defScope sRef) _ = true by decide +kernel)) rfl (fun _ _ _ _ _ => rfl) fun A outer s H E f c' hr => (pe_callH L.putIn (hr.mono (by decide)) (by rfl) (passes_call (W := fun cls d _ H => E cls d H) (takes_of rfl rfl rfl rfl) (fun _ _ _ _ h => h)) (pa_cons (pv 1) (pa_cons (pe_callTy (call_dictV hr rfl) (by rfl) L.bi.dict (by decide +kernel) (pa_cons (pe_lst (pa_cons (pe_tup (pa_cons (pe_tup (pa_cons pe_str (pa_cons pe_int pa_nil))) (pa_cons pe_int pa_nil))) (pa_cons (pe_tup (pa_cons (pe_tup (pa_cons pe_str (pa_cons pe_int pa_nil))) (pa_cons (pv 5) pa_nil))) (pa_cons (pe_tup (pa_cons (pv 3) (pa_cons pe_int pa_nil))) pa_nil)))) pa_nil)) pa_nil)))) pa_nil))), ?_⟩
  intro D B H p r vo d l cc n ps vk vd dk dd l1 o4 rp h od hk kb hd no F hl1 q
  obtain ⟨xs0, f1, f2⟩ := id F
  refine ⟨_, rfl, .inl ⟨rfl, _, SqL.of f1⟩, h.up.tabs, fun H1 e1 t1 => ?_⟩
  have h1 := h.extR f1 e1 t1
  have thk : Th K H1 vk dk := th_same (wo_sub.trans wo_sub) (h1.all _ hk)
  have thd : Th K H1 vd dd := th_same (wo_sub.trans wo_sub) (h1.all _ hd)
  obtain ⟨kk, nk, kd, k2, k3⟩ := kb.nk
  have dpk := th_dp thk nk
  refine ⟨_, rfl, sz2, fun a2 n2 => ?_⟩
  have s1 := same_new (o := .tup [V.str "in", V.int 2]) n2
  have g1 : upd H1 a2 (.tup [V.str "in", V.int 2]) a2 = some (.tup [V.str "in", V.int 2]) := upd_same
  generalize upd H1 a2 (.tup [V.str "in", V.int 2]) = J1 at s1 g1 ⊢
  refine ⟨sz2, fun b2 m2 => ?_⟩
  have s2 := same_new (o := .tup [V.ref a2, V.int 3]) m2
  have g2 : upd J1 b2 (.tup [V.ref a2, V.int 3]) b2 = some (.tup [V.ref a2, V.int 3]) := upd_same
  generalize upd J1 b2 (.tup [V.ref a2, V.int 3]) = J2 at s2 g2 ⊢
  refine ⟨sz2, fun a3 n3 => ?_⟩
  have s3 := same_new (o := .tup [V.str "in", V.int 3]) n3
  have g3 : upd J2 a3 (.tup [V.str "in", V.int 3]) a3 = some (.tup [V.str "in", V.int 3]) := upd_same
  generalize upd J2 a3 (.tup [V.str "in", V.int 3]) = J3 at s3 g3 ⊢
  refine ⟨_, rfl, sz2, fun b3 m3 => ?_⟩
  have s4 := same_new (o := .tup [V.ref a3, vd]) m3
  have g4 : upd J3 b3 (.tup [V.ref a3, vd]) b3 = some (.tup [V.ref a3, vd]) := upd_same
  generalize upd J3 b3 (.tup [V.ref a3, vd]) = J4 at s4 g4 ⊢
  refine ⟨_, rfl, sz2, fun b1 m1 => ?_⟩
  have s5 := same_new (o := .tup [vk, V.int 1]) m1
  have g5 : upd J4 b1 (.tup [vk, V.int 1]) b1 = some (.tup [vk, V.int 1]) := upd_same
  generalize upd J4 b1 (.tup [vk, V.int 1]) = J5 at s5 g5 ⊢
  refine ⟨(by show 3 ≤ sizeLine; decide), fun l0 n0 => ?_⟩
  have s6 := same_new (o := .lst [V.ref b2, V.ref b3, V.ref b1]) n0
  have g6 : upd J5 l0 (.lst [V.ref b2, V.ref b3, V.ref b1]) l0 = some (.lst [V.ref b2, V.ref b3, V.ref b1]) := upd_same
  generalize upd J5 l0 (.lst [V.ref b2, V.ref b3, V.ref b1]) = J6 at s6 g6 ⊢
  have s56 := s5.trans s6
  have s36 := (s4.trans s56)
  have s26 := (s3.trans s36)
  have S : Same H1 J6 := (s1.trans s2).trans s26
  have e2 := (s2.trans s26) _ _ g1
  have e3 := s36 _ _ g3
  have dk6 := dp_same S dpk
  refine ⟨l0, [b2, b3, b1], [(kb2, .ref a2, .int 3), (kb3, .ref a3, vd), (kk, vk, .int 1)], rfl, SqL.of g6, .cons ⟨SqT.of (s26 _ _ g2), in_keyV e2⟩ (.cons ⟨SqT.of (s56 _ _ g4), in_keyV e3⟩ (.cons ⟨SqT.of (s6 _ _ g5), dk, dk6, nk, kd⟩ .nil)), ?_, fun kv hkv => ?_, (by show 3 ≤ 1000; decide), fun D0 hD => ?_⟩
  · show [kb2, kb3, kk].Nodup
    have : kb2 ≠ kb3 := by decide
    simp [Ne.symm k2, Ne.symm k3, this]
  · exact ⟨a2, by rw [← Option.some.inj hkv]⟩
  · have sD := same_new (o := MapO P w D0 [(kb2, .ref a2, .int 3), (kb3, .ref a3, vd), (kk, vk, .int 1)]) hD
    refine ⟨vo, .ref D0, d, rfl, .dat (dp_same ((wo_sub.trans wo_sub).trans (S.trans sD)) h1.one), od.ok, fun e => od.not e, fun n1 ps1 _ H8 v1 s8 _ => ?_⟩
    have S8 := sD.trans s8
    refine bad2 (dx := (inD 2, .int 3)) (dy := (inD 3, dd)) (dz := (dk, .int 1)) (g := ([.inr sIn, .inl 2], 3, [])) (s8 _ _ upd_same) (in_wr (S8 _ _ e2) (.dat (.int 3)) (ok_int 3)) (in_wr (S8 _ _ e3) (th_same (S.trans S8) thd) no.ok) ⟨dp_same S8 dk6, nk, kd, kb.sh, .dat (.int 1), ok_int 1⟩ ⟨a2, rfl⟩ ⟨by decide +kernel, rfl⟩ (.inr no.no) fun H' dd k hdd => ?_
    have S9 : Same J6 H' := fun b x e => k b x (ne_of_none e hD) (S8 _ _ e)
    refine met_worth S9 hdd fun a H2 s9 ha => ?_
    have E2 := e1.trans (LamX.ExtN.of (S.trans s9))
    obtain ⟨xs, x1, x2, x3⟩ := F.app hl1 (ext_l E2 (p := p)) (ext_t E2) rp ha
    have e9 := s9 _ _ e3
    refine ⟨r, xs, .ref a, rfl, rfl, x1, x2, q _ a3 ?_ x3 ?_⟩
    · rw [wo_upd]
      exact h.extR f1 E2 (t1.ext (S.trans s9))
    · rw [upd_ne (fun z => by rw [z, x1] at e9; cases e9)]
      exact e9
theorem rr17 (L : TR P w K mg base CS CN CW) (TB : LamX.TabB base mg c tb) (hmT : (tb, qRef) ∈ T') (hu : ∀ p ∈ T', p.1 = tb → p.2 = qRef) (hr : Room 15 (XR P w K mg base f c A outer s H0 E).A) : ∃ t, PS (XR P w K mg base f c A outer s H0 E) (rb 17) t ∧
    ∀ (D : Ends) (B H : Hp) (p r : Addr) (vo : V) (d : PyData) (l : List (V × PyData)) (cc : Nat) (n : Int) (ps : Mul) (l1 : List (Str × V)) (a3 : Addr) (o3 o4 o5 : Option V), r ≠ p → Rg K T' B p vo d l cc (wo H r) → cc < 2100 → OneD d n ps → FndL H r l1 → l1.length ≤ 20 → H a3 = some (.tup [.str "in", .int 3]) →
      (∀ H', Rg K T' B p vo d l (cc + 1) (wo H' r) → FndL H' r (l1 ++ ([("worths", .non)] : List (Str × V))) → H' a3 = some (.tup [.str "in", .int 3]) → D.nx (sgr p vo (some (.ref r)) o3 o4 o5) H') → t D (sgr p vo (some (.ref r)) o3 o4 o5) H := by
  refine ⟨_, (ps_expr (pe_bm PySem.F.plainAttrs_list PySem.F.slot_list_append PySem.F.type_list_append mt_append (pv 2) (pa_cons (pe_met (k := 12)  L.met (by rfl) TB rfl hmT hu (hr.mono (by decide)) (LamX.lamS_by (show LamX.lamSB (defScope sRef) _ = true by decide +kernel)) rfl (fun _ _ _ _ _ => rfl) fun A outer s H E f c' hr => (pe_callH L.putIn (hr.mono (by decide)) (by rfl) (passes_call (W := fun cls d _ H => E cls d H) (takes_of rfl rfl rfl rfl) (fun _ _ _ _ h => h)) (pa_cons (pv 1) (pa_cons (pe_callH L.one (hr.mono (by decide)) (by rfl) pass0 (pa_cons (pv 0) (pa_cons (pe_lst (pa_cons pe_non (pa_cons pe_int (pa_cons (pe_lst pa_nil) (pa_cons pe_str pa_nil))))) pa_nil))) pa_nil)))) pa_nil))), ?_⟩
  intro D B H p r vo d l cc n ps l1 a3 o3 o4 o5 rp h hc od F hl1 h3 q
  obtain ⟨xs0, f1, f2⟩ := id F
  refine ⟨_, rfl, .inl ⟨rfl, _, SqL.of f1⟩, h.up.tabs, fun H1 e1 t1 => ?_⟩
  have h1 := h.extR f1 e1 t1
  refine ⟨_, rfl, one_go (K := K) (ds := wL) rfl h1.up.pool (by omega) (by repeat' (first | exact mk_non | exact mk_bl | exact mk_int | exact mk_str | exact mk_eq | exact mkds_nil | exact mkts_nil | exact mkt_dct | refine mkds_cons ?_ ?_ | refine mkts_cons ?_ ?_ | refine mk_tup ?_ (by decide) | refine mk_lst ?_ (by decide) | refine mkt_dat ?_)) (by decide) (by decide) fun H2 v dv k2 pl2 th hd => ?_⟩
  have h2 : Rg K T' B p vo d l (cc + 1) H2 := h1.up.drawn k2 pl2
  refine ⟨vo, v, d, rfl, .dat (dp_same wo_sub h2.one), od.ok, fun e => od.not e, fun n1 ps1 _ H8 v1 s8 _ => ⟨v, rfl, .inl ⟨dv, th_same (wo_sub.trans s8) th, wL_no dv hd, fun dx hdx => met_worth s8 hdx fun a H9 s9 ha => ?_⟩⟩⟩
  have r1 := e1 _ _ f1 (by intro x z; cases z)
  have r2 := k2 _ _ rp r1
  have pt : ∀ b xs, H1 b = some (.tup xs) → b ≠ p := fun b xs hb z => by
    obtain ⟨_, _, _, e, _⟩ := h1.up.pool.ex
    rw [z, e] at hb
    cases hb
  have kt : ∀ b xs, H b = some (.tup xs) → H9 b = some (.tup xs) := fun b xs hb => by
    have := ext_t e1 _ _ hb
    exact s9 _ _ (k2 _ _ (pt _ _ this) this)
  obtain ⟨xs, x1, x2, x3⟩ := F.app (H2 := H9) (p := p) hl1 (fun b xs hb e => s9 _ _ (k2 _ _ hb (ext_l e1 b xs hb e))) kt rp ha
  have e9 := kt _ _ h3
  refine ⟨r, xs, .ref a, rfl, rfl, x1, x2, q _ ?_ x3 ?_⟩
  · rw [wo_upd]
    have pw : Pool (wo H9 r) p (cc + 1) := by
      obtain ⟨y1, y2, y3, y4, y5⟩ := (pool_same s9 pl2).ex
      exact ⟨y1, y2, y3, by rw [wo_ne rp.symm]; exact y4, y5⟩
    refine h1.drawn (fun b x hb e => ?_) pw
    by_cases br : b = r
    · rw [br] at e
      unfold wo at e
      rw [if_pos rfl] at e
      cases e
    · rw [wo_ne br] at e ⊢
      exact s9 _ _ (k2 _ _ hb e)
  · rw [upd_ne (fun z => by rw [z, x1] at e9; cases e9)]
    exact e9
end
end DR

namespace DR
open PySem PySem.Spec PyProof.Rows L2
/-! ### _law_refused_right, whole -/
theorem each4 {α β : Type} {R : α → β → Prop} {xs : List α} {a b c d : β} (h : PySem.W.EachIs R xs [a, b, c, d]) : ∃ x y z u, xs = [x, y, z, u] ∧ R x a ∧ R y b ∧ R z c ∧ R u d := by
  cases h with
  | cons h1 h => cases h with
    | cons h2 h => cases h with
      | cons h3 h => cases h with
        | cons h4 h =>
          cases h
          exact ⟨_, _, _, _, rfl, h1, h2, h3, h4⟩
section
variable {P : Program} {w : World} {K : PySem.W.Frag} {mg : Str → Option Value} {base : Heap} {CS CN CW f c tb : Addr} {T' : List (Addr × Str)} {A : Around} {outer : List Env} {s : Shared} {H0 : Hp} {E : XK}
theorem rr18 (hr : Room 15 (XR P w K mg base f c A outer s H0 E).A) : ∃ t, PS (XR P w K mg base f c A outer s H0 E) (rb 18) t ∧
    ∀ (H : Hp) (Q : VK) (N : L2.St → Hp → Prop) (p r : Addr) (vo : V) (vn vk : V) (a3 : Addr) (o5 : Option V), (flatB vn = true ∨ ∃ c, vn = .ref c) → (flatB vk = true ∨ ∃ c, vk = .ref c) → FndL H r [("number", vn), ("worths", vk), ("worths", .ref a3), ("worths", .non)] → H a3 = some (.tup [.str "in", .int 3]) →
      (∀ H', Same H H' → Q (.bl true) H') → t { nx := N, rt := Q } (sgr p vo (some (.ref r)) (some vk) (some vn) o5) H := by
  refine ⟨_, ps_ret (pe_cmpR (op_eqS hr) (pv 2) (pe_lst (pa_cons (pe_tup (pa_cons pe_str (pa_cons (pv 4) pa_nil))) (pa_cons (pe_tup (pa_cons pe_str (pa_cons (pv 3) pa_nil))) (pa_cons (pe_tup (pa_cons pe_str (pa_cons (pe_tup (pa_cons pe_str (pa_cons pe_int pa_nil))) pa_nil))) (pa_cons (pe_tup (pa_cons pe_str (pa_cons pe_non pa_nil))) pa_nil))))) (nomark _)), ?_⟩
  intro H Q N p r vo vn vk a3 o5 fn fk F h3 q
  obtain ⟨xs, f1, f2⟩ := F
  obtain ⟨y1, y2, y3, y4, rfl, ⟨b1, rfl, h1⟩, ⟨b2, rfl, h2⟩, ⟨b3, rfl, h3'⟩, ⟨b4, rfl, h4⟩⟩ := each4 f2
  refine ⟨_, rfl, _, rfl, sz2, fun p1 n1 => ?_⟩
  have s1 := same_new (o := .tup [V.str "number", vn]) n1
  have g1 : upd H p1 (.tup [V.str "number", vn]) p1 = some (.tup [V.str "number", vn]) := upd_same
  generalize upd H p1 (.tup [V.str "number", vn]) = J1 at s1 g1 ⊢
  refine ⟨_, rfl, sz2, fun p2 n2 => ?_⟩
  have s2 := same_new (o := .tup [V.str "worths", vk]) n2
  have g2 : upd J1 p2 (.tup [V.str "worths", vk]) p2 = some (.tup [V.str "worths", vk]) := upd_same
  generalize upd J1 p2 (.tup [V.str "worths", vk]) = J2 at s2 g2 ⊢
  refine ⟨sz2, fun p3 n3 => ?_⟩
  have s3 := same_new (o := .tup [V.str "in", V.int 3]) n3
  have g3 : upd J2 p3 (.tup [V.str "in", V.int 3]) p3 = some (.tup [V.str "in", V.int 3]) := upd_same
  generalize upd J2 p3 (.tup [V.str "in", V.int 3]) = J3 at s3 g3 ⊢
  refine ⟨sz2, fun p4 n4 => ?_⟩
  have s4 := same_new (o := .tup [V.str "worths", V.ref p3]) n4
  have g4 : upd J3 p4 (.tup [V.str "worths", V.ref p3]) p4 = some (.tup [V.str "worths", V.ref p3]) := upd_same
  generalize upd J3 p4 (.tup [V.str "worths", V.ref p3]) = J4 at s4 g4 ⊢
  refine ⟨sz2, fun p5 n5 => ?_⟩
  have s5 := same_new (o := .tup [V.str "worths", V.non]) n5
  have g5 : upd J4 p5 (.tup [V.str "worths", V.non]) p5 = some (.tup [V.str "worths", V.non]) := upd_same
  generalize upd J4 p5 (.tup [V.str "worths", V.non]) = J5 at s5 g5 ⊢
  refine ⟨(by show 4 ≤ sizeLine; decide), fun p6 n6 => ?_⟩
  have s6 := same_new (o := .lst [V.ref p1, V.ref p2, V.ref p4, V.ref p5]) n6
  have g6 : upd J5 p6 (.lst [V.ref p1, V.ref p2, V.ref p4, V.ref p5]) p6 = some (.lst [V.ref p1, V.ref p2, V.ref p4, V.ref p5]) := upd_same
  generalize upd J5 p6 (.lst [V.ref p1, V.ref p2, V.ref p4, V.ref p5]) = J6 at s6 g6 ⊢
  have s56 := s5.trans s6
  have s46 := s4.trans s56
  have s36 := s3.trans s46
  have s26 := s2.trans s36
  have S := s1.trans s26
  refine ⟨r, p6, _, _, rfl, rfl, SqL.of (S _ _ f1), SqL.of g6, .cons ⟨b1, p1, _, vn, vn, rfl, rfl, SqT.of (S _ _ h1), SqT.of (s26 _ _ g1), .inl ⟨rfl, fn⟩⟩ (.cons ⟨b2, p2, _, vk, vk, rfl, rfl, SqT.of (S _ _ h2), SqT.of (s36 _ _ g2), .inl ⟨rfl, fk⟩⟩ (.cons ⟨b3, p4, _, .ref a3, .ref p3, rfl, rfl, SqT.of (S _ _ h3'), SqT.of (s56 _ _ g4), .inr ⟨inD 3, in_dp (S _ _ h3), in_dp (s46 _ _ g3), by decide, by decide, by decide +kernel⟩⟩ (.cons ⟨b4, p5, _, .non, .non, rfl, rfl, SqT.of (S _ _ h4), SqT.of (s6 _ _ g5), .inl ⟨rfl, .inl rfl⟩⟩ .nil))), q J6 S⟩
def spRef (K : PySem.W.Frag) (T' : List (Addr × Str)) : Sp := fun vs H Q _ => ∃ (p : Addr) (c : Nat) (vo : V) (d : PyData) (n : Int) (ps : Mul), vs = [.ref p, vo] ∧ Pool H p c ∧ c < 900 ∧ Dp K (wo H p) vo d ∧ OneD d n ps ∧ LamX.Tabs T' H ∧
  ∀ H', LamX.ExtN (wo H p) (wo H' p) → LamX.Tabs T' H' → Q (.bl true) H'
theorem ok_ref {fd : FuncData} (F : FunC K "_law_refused_right" sRef c f fd) (L : TR P w K mg base CS CN CW) (TB : LamX.TabB base mg c tb) (hmT : (tb, qRef) ∈ T') (hu : ∀ p ∈ T', p.1 = tb → p.2 = qRef) :
    FnOk P w K mg base (L2.CX P w) 16 f fd ["pool", "one"] (spRef K T') := by
  refine F.okX scRef (fun vs H Q E h => ?_) (fun A outer s H vs Q E hr h => ?_)
  · obtain ⟨p, c, vo, d, n, ps, rfl, _⟩ := h
    rfl
  · obtain ⟨p, cc, vo, d, n, ps, rfl, pl, hc, ho, od, hT, q⟩ := h
    obtain ⟨t0, h0, q0⟩ := rr0 (P := P) (w := w) (K := K) (mg := mg) (base := base) (E := E) (A := A) (outer := outer) (s := s) (H0 := H) (f := f) (c := c)
    obtain ⟨t1, h1, q1⟩ := rr1 (P := P) (w := w) (K := K) (mg := mg) (base := base) (E := E) (A := A) (outer := outer) (s := s) (H0 := H) (f := f) (c := c)
    obtain ⟨t2, h2, q2⟩ := rr2 (P := P) (w := w) (K := K) (mg := mg) (base := base) (E := E) (A := A) (outer := outer) (s := s) (H0 := H) (f := f) (c := c)
    obtain ⟨t3, h3, q3⟩ := rr3 (E := E) (A := A) (outer := outer) (s := s) (H0 := H) (f := f) (c := c) L hr
    obtain ⟨t4, h4, q4⟩ := rr4 (E := E) (A := A) (outer := outer) (s := s) (H0 := H) (f := f) (c := c) L TB hmT hu hr
    obtain ⟨t5, h5, q5⟩ := rr5 (E := E) (A := A) (outer := outer) (s := s) (H0 := H) (f := f) (c := c) L TB hmT hu hr
    obtain ⟨t6, h6, q6⟩ := rr6 (E := E) (A := A) (outer := outer) (s := s) (H0 := H) (f := f) (c := c) L TB hmT hu hr
    obtain ⟨t7, h7, q7⟩ := rr7 (E := E) (A := A) (outer := outer) (s := s) (H0 := H) (f := f) (c := c) L TB hmT hu hr
    obtain ⟨t8, h8, q8⟩ := rr8 (E := E) (A := A) (outer := outer) (s := s) (H0 := H) (f := f) (c := c) L TB hmT hu hr
    obtain ⟨t9, h9, q9⟩ := rr9 (E := E) (A := A) (outer := outer) (s := s) (H0 := H) (f := f) (c := c) L TB hmT hu hr
    obtain ⟨t10, h10, q10⟩ := rr10 (E := E) (A := A) (outer := outer) (s := s) (H0 := H) (f := f) (c := c) L TB hmT hu hr
    obtain ⟨t11, h11, q11⟩ := rr11 (T' := T') (P := P) (w := w) (K := K) (mg := mg) (base := base) (E := E) (A := A) (outer := outer) (s := s) (H0 := H) (f := f) (c := c) hr
    obtain ⟨t12, h12, q12⟩ := rr12 (T' := T') (E := E) (A := A) (outer := outer) (s := s) (H0 := H) (f := f) (c := c) L hr
    obtain ⟨t13, h13, q13⟩ := rr13 (T' := T') (E := E) (A := A) (outer := outer) (s := s) (H0 := H) (f := f) (c := c) L hr
    obtain ⟨t14, h14, q14⟩ := rr14 (E := E) (A := A) (outer := outer) (s := s) (H0 := H) (f := f) (c := c) L TB hmT hu hr
    obtain ⟨t15, h15, q15⟩ := rr15 (E := E) (A := A) (outer := outer) (s := s) (H0 := H) (f := f) (c := c) L TB hmT hu hr
    obtain ⟨t16, h16, q16⟩ := rr16 (E := E) (A := A) (outer := outer) (s := s) (H0 := H) (f := f) (c := c) L TB hmT hu hr
    obtain ⟨t17, h17, q17⟩ := rr17 (E := E) (A := A) (outer := outer) (s := s) (H0 := H) (f := f) (c := c) L TB hmT hu hr
    obtain ⟨t18, h18, q18⟩ := rr18 (P := P) (w := w) (K := K) (mg := mg) (base := base) (E := E) (A := A) (outer := outer) (s := s) (H0 := H) (f := f) (c := c) hr
    refine ⟨_, pss_cons h0 (pss_cons h1 (pss_cons h2 (pss_cons h3 (pss_cons h4 (pss_cons h5 (pss_cons h6 (pss_cons h7 (pss_cons h8 (pss_cons h9 (pss_cons h10 (pss_cons h11 (pss_cons h12 (pss_cons h13 (pss_cons h14 (pss_cons h15 (pss_cons h16 (pss_cons h17 (pss_one h18)))))))))))))))))), ?_⟩
    refine q0 _ H p vo fun H1 a1 x1 s1 l1 => ?_
    refine q1 _ H H1 p a1 vo x1 s1 l1 fun H2 a2 x2 s2 l2 => ?_
    refine q2 _ H H2 p a2 vo x2 (s1.trans s2) l2 fun H3 a3 x3 s3 l3 => ?_
    refine q3 _ H H3 p a3 cc vo x3 ((s1.trans s2).trans s3) pl (by omega) l3 fun H4 vd dd k4 pl4 th4 no => ?_
    obtain ⟨_, _, _, eB, _⟩ := id pl.ex
    have R4 : Rf K T' H p vo d vd dd H4 := ⟨tabs_pool hT pl k4, dp_same (wo_dr k4) ho, th_same (nw_wo eB fun b x _ e => e) th4, LamX.ExtN.of (wo_dr k4), cc + 1, pl4, by omega⟩
    refine q4 _ H H4 p vo vd d dd _ _ R4 no (fun H5 r R5 F5 => ?_) _
    refine q5 _ H H5 p r vo vd d dd n ps _ _ R5 od no F5 fun H6 R6 F6 => ?_
    refine q6 _ H H6 p r vo vd d dd n ps _ _ R6 od no F6 fun H7 R7 F7 => ?_
    refine q7 _ H H7 p r vo vd d dd n ps _ _ R7 od no F7 fun H8 R8 F8 => ?_
    refine q8 _ H H8 p r vo vd d dd n ps _ _ R8 od no F8 fun H9 R9 F9 => ?_
    refine q9 _ H H9 p r vo vd d dd n ps _ _ R9 od no F9 fun Ha Ra Fa => ?_
    refine q10 _ H Ha p r vo vd d dd n ps _ _ Ra od no Fa fun Hb Rb Fb => ?_
    refine q11 _ H Hb p r vo vd d dd _ _ Rb Fb fun Hc Rc => ?_
    obtain ⟨c1, hc1, G1⟩ := Rc.rg
    refine q12 _ H Hc p vo d _ c1 _ _ _ _ G1 hc1 fun Hd vn dn G2 ni => ?_
    refine q13 _ H Hd p vo d _ (c1 + 1) _ _ _ _ G2 (by omega) fun He vk dk G3 kb => ?_
    refine q14 _ H He p vo d _ _ n ps vn dn _ _ _ G3 od (by simp) ni fun Hf r2 rp G4 F4 => ?_
    have fn := th_flat (G3.all (vn, dn) (by simp))
    have fk := th_flat (G3.all (vk, dk) (by simp))
    refine q15 _ H Hf p r2 vo d _ _ n ps vk dk _ _ _ rp G4 od (by simp) kb F4 (by simp) fun Hg G5 F5' => ?_
    refine q16 _ H Hg p r2 vo d _ _ n ps vk vd dk dd _ _ rp G5 od (by simp) kb (by simp) no F5' (by simp) fun Hh a9 G6 F6' h6' => ?_
    refine q17 _ H Hh p r2 vo d _ _ n ps _ a9 _ _ _ rp G6 (by omega) od F6' (by simp) h6' fun Hi G7 F7' h7' => ?_
    refine q18 Hi _ _ p r2 vo vn vk a9 _ fn fk F7' h7' fun Hj sj => ?_
    exact q Hj (G7.keep.trans ((ext_wo (LamX.ExtN.of wo_sub)).trans (LamX.ExtN.of fun b x e => by
      by_cases hb : b = p
      · rw [hb] at e
        unfold wo at e
        rw [if_pos rfl] at e
        cases e
      · rw [wo_ne hb] at e ⊢
        exact sj _ _ e))) (G7.up.tabs.ext sj)
end
end DR

namespace DR
open PySem PySem.Spec PyProof.Rows L2
/-! ### what is drawn: sums in one form -/
structure Drw (d : PyData) (n : Int) (l : Mul) : Prop where
  sh : Shape d n l
  uk : ∀ u ∈ l.map (·.1), Uk u
  few : l.length ≤ 5
  mu : ∀ q ∈ l, Mu q.2
  nz : Sz n
abbrev psOf (l : Mul) : Mul := form (accAll l)
/-- a sum in its one form -/
structure SumOk (n : Int) (ps : Mul) : Prop where
  nod : NodK ps
  uk : ∀ u ∈ ps.map (·.1), Uk u
  one : form ps = ps
  few : ps.length ≤ 5
  sz : ∀ q ∈ ps, Sz q.2
  nz : Sz n
theorem SumOk.nm {n : Int} {ps : Mul} (h : SumOk n ps) : ∀ u ∈ ps.map (·.1), NmU u := fun u hu => (h.uk u hu).nm
theorem plusA_keys {Pr : List Key → Prop} : ∀ (m l : Mul), (∀ u ∈ m.map (·.1), Pr u) → (∀ u ∈ l.map (·.1), Pr u) → ∀ u ∈ (plusA l m).map (·.1), Pr u
  | [], l, _, hl => hl
  | q :: m, l, hm, hl => plusA_keys m (addP l q.1 q.2) (fun u hu => hm u (List.mem_cons_of_mem _ hu)) (addP_keys hl (hm q.1 (List.mem_cons_self ..)))
theorem form_keys {Pr : List Key → Prop} {l : Mul} (h : ∀ u ∈ l.map (·.1), Pr u) : ∀ u ∈ (form l).map (·.1), Pr u := fun u hu => by
  unfold form at hu
  rw [List.map_map] at hu
  obtain ⟨x, hx, rfl⟩ := List.mem_map.mp hu
  exact h x (List.mem_filter.mp (mem_sort hx)).1
theorem abs_isU (v u : List Key) (m : Int) : (m * isU v u).natAbs ≤ m.natAbs := by
  unfold isU
  split
  · simp
  · simp
theorem lin_abs (v : List Key) : ∀ l : Mul, (∀ q ∈ l, Mu q.2) → (lin (isU v) l).natAbs ≤ l.length * 10 ^ 20
  | [], _ => by simp [lin]
  | q :: l, h => by
    have ih := lin_abs v l fun q' hq => h q' (List.mem_cons_of_mem _ hq)
    have h1 : q.2.natAbs ≤ 10 ^ 20 := h q (List.mem_cons_self ..)
    have h2 := abs_isU v q.1 q.2
    have h3 := Int.natAbs_add_le (q.2 * isU v q.1) (lin (isU v) l)
    have e : (q :: l).length * 10 ^ 20 = l.length * 10 ^ 20 + 10 ^ 20 := by
      rw [List.length_cons, Nat.add_mul, Nat.one_mul]
    rw [e]
    show (q.2 * isU v q.1 + lin (isU v) l).natAbs ≤ _
    omega
theorem getI_acc (l : Mul) (u : List Key) : getI (accAll l) u = lin (isU u) l := by
  rw [getI_lin (acc_nod l)]
  have := (acc_go l [] List.nodup_nil).2 (isU u)
  unfold accAll
  rw [this]
  simp [lin]
theorem Drw.ok {d : PyData} {n : Int} {l : Mul} (h : Drw d n l) : SumOk n (psOf l) := by
  have nm : ∀ u ∈ l.map (·.1), NmU u := fun u hu => (h.uk u hu).nm
  have few := h.few
  refine ⟨form_nod (acc_nod l), form_keys (plusA_keys l [] h.uk (fun u hu => by simp at hu)), form_form (acc_nod l) (accA_nm nm), ?_, fun q hq => ?_, h.nz⟩
  · have h1 := form_len (accAll l)
    have h2 := accA_len l
    show (form (accAll l)).length ≤ 5
    omega
  · unfold psOf form at hq
    obtain ⟨u, _, rfl⟩ := List.mem_map.mp hq
    show Sz (getI (accAll l) u)
    rw [getI_acc]
    have h3 := lin_abs u l h.mu
    refine Nat.lt_of_le_of_lt h3 (Nat.lt_of_le_of_lt (Nat.mul_le_mul_right _ few) (by decide))
theorem Drw.rd {d : PyData} {n : Int} {l : Mul} (h : Drw d n l) : readSum d = some (n, psOf l) := shape_read h.sh h.uk
theorem Drw.oks {d : PyData} {n : Int} {l : Mul} (h : Drw d n l) : okSum d := shape_ok h.sh h.uk h.few
theorem Drw.oned {d : PyData} {n : Int} {l : Mul} (h : Drw d n l) : OneD d n (psOf l) := ⟨h.oks, h.rd⟩
/-- the two ways to put k times the second to the first -/
theorem plus_one {ps qs : Mul} (k : Int) (nd : NodK ps) (n1 : ∀ u ∈ ps.map (·.1), NmU u) (n2 : ∀ u ∈ qs.map (·.1), NmU u) : form (plusA ps (scal k qs)) = form (accAll (ps ++ scal k qs)) := by
  obtain ⟨a1, a2⟩ := plusA_lin (scal k qs) ps nd
  refine form_eq a1 (acc_nod _) (plusA_nm (scal_nm n2) n1) fun u => ?_
  rw [getI_lin a1, a2, getI_acc, lin_app]
theorem parts_LP (ps : Mul) : PySem.W.EachIs LP (ps.map partD) ps := by
  induction ps with
  | nil => exact .nil
  | cons q l ih => exact .cons (.inr rfl) ih
theorem acc_one {ps : Mul} (nd : NodK ps) (nm : ∀ u ∈ ps.map (·.1), NmU u) : form (accAll ps) = form ps :=
  form_eq (acc_nod ps) nd (accA_nm nm) fun u => by rw [getI_acc, getI_lin nd]
theorem SumOk.rd {n : Int} {ps : Mul} (h : SumOk n ps) : readSum (sumD n ps) = some (n, ps) := by
  show (readParts (ps.map partD) []).map (fun kvs => (n, form kvs)) = _
  rw [parts_read (ps.map partD) ps [] (parts_LP ps) fun q hq => h.uk q.1 (List.mem_map.mpr ⟨q, hq, rfl⟩)]
  show some (n, form (accAll ps)) = _
  rw [acc_one h.nod h.nm, h.one]
theorem SumOk.oks {n : Int} {ps : Mul} (h : SumOk n ps) : okSum (sumD n ps) := by
  intro n' q ds e1 e2
  obtain rfl : q = .tuple (ps.map partD) := by
    have := Option.some.inj (show some [PyData.int n, .tuple (ps.map partD)] = some [.int n', q] from e1)
    exact (List.cons.inj (List.cons.inj this).2).1.symm
  obtain rfl := Option.some.inj (show some (ps.map partD) = some ds from e2)
  have few := h.few
  refine ⟨by rw [List.length_map]; omega, fun p hp => ?_⟩
  obtain ⟨q, hq, rfl⟩ := List.mem_map.mp hp
  exact okPart_LP (.inr rfl) (h.uk q.1 (List.mem_map.mpr ⟨q, hq, rfl⟩))
theorem SumOk.oned {n : Int} {ps : Mul} (h : SumOk n ps) : OneD (sumD n ps) n ps := ⟨h.oks, h.rd⟩
theorem SumOk.fit {n m : Int} {ps qs : Mul} (h : SumOk n ps) (g : SumOk m qs) {k : Int} (zk : Sz k) : FitT ps k m qs := by
  have a := h.few
  have b := g.few
  exact ⟨h.nod, h.nm, g.nm, by omega, by omega, zk, g.nz, g.sz⟩
theorem SumOk.fitA {n m : Int} {ps qs : Mul} (h : SumOk n ps) (g : SumOk m qs) {k : Int} (zk : Sz k) : FitA ps k m qs := by
  have a := h.few
  have b := g.few
  exact ⟨h.nm, g.nm, by omega, by omega, zk, g.nz, g.sz⟩
theorem SumOk.plain {n : Int} {ps : Mul} (h : ∀ u ∈ ps.map (·.1), NmU u) : (sumD n ps).plain = true := by
  have := plain_parts h
  simp [sumD, PyData.plain, PyData.plainAll, this]
theorem sum_depth {n : Int} {ps : Mul} (h : ∀ u ∈ ps.map (·.1), NmU u) : (sumD n ps).depth ≤ 8 := by
  have := depth_parts h
  simp only [sumD, PyData.depth, PyData.depthAll]
  omega
end DR

namespace DR
open PySem PySem.Spec PyProof.Rows L2
/-! ### the law -/
abbrev sLaw : Stmt := topS 43
abbrev NL : List Str := ["script", "turn", "pool", "number", "one", "first", "other", "second", "held", "many", "found", "due", "unknown", "worths", "handed", "own", "some", "k", "loose", "thing"]
theorem scLaw : FnScope NL ["script"] (defScope sLaw) := ⟨rfl, rfl, rfl, by decide +kernel, rfl, by decide +kernel, by decide +kernel⟩
abbrev lb (i : Nat) : Stmt := (defBody sLaw).getD i (.Pass ⟨0, 0, 0, 0⟩)
def forBody : Stmt → List Stmt
  | .For _ _ b _ _ => b
  | _ => []
abbrev fb (i : Nat) : Stmt := (forBody (lb 0)).getD i (.Pass ⟨0, 0, 0, 0⟩)
/-- what the law calls -/
structure TL (P : Program) (w : World) (K : PySem.W.Frag) (mg : Str → Option Value) (base : Heap) (CS CN CW : Addr) (T' : List (Addr × Str)) : Prop where
  r : TR P w K mg base CS CN CW
  repr : mg "repr" = none
  cell : Has P w K mg base CX0 1 "_law_cell" ["script", "k"] (spCell K)
  pool : Has P w K mg base CX0 1 "_law_pool" ["cell"] spPool
  take : Has P w K mg base CX0 1 "_law_take" ["pool", "many"] spTake
  pairs : Has P w K mg base CX0 3 "_law_pairs" ["pool"] (spPairs K)
  loose : Has P w K mg base CX0 5 "_law_loose" ["pool", "number", "pairs"] (spLoose K)
  added : Has P w K mg base CX0 4 "_law_added" ["one", "other", "many"] (spAdded K)
  lput : Has P w K mg base CX0 6 "_law_put" ["one", "worths"] (spPut K)
  laddr : Has P w K mg base CX0 1 "_law_address" ["one"] (spAddrIn K)
  ref : Has P w K mg base (L2.CX P w) 16 "_law_refused_right" ["pool", "one"] (spRef K T')
abbrev XL (P : Program) (w : World) (K : PySem.W.Frag) (mg : Str → Option Value) (base : Heap) (f : Addr) (c : Value) (A : Around) (outer : List Env) (s : Shared) (H : Hp) (E : XK) : Cx := cxOf (L2.CX P w) P w K mg base NL "law" (defScope sLaw) f c A outer s H E
abbrev sgl (sc : Addr) (o1 o2 o3 o4 o5 o6 o7 o8 o9 o10 o11 o12 o13 o14 o15 o16 o17 o18 o19 : Option V) : L2.St := [some (.ref sc), o1, o2, o3, o4, o5, o6, o7, o8, o9, o10, o11, o12, o13, o14, o15, o16, o17, o18, o19]
/-- what stands whatever is drawn -/
structure Ls (K : PySem.W.Frag) (T' : List (Addr × Str)) (sc : Addr) (ns : List Int) (H : Hp) : Prop where
  tabs : LamX.Tabs T' H
  script : SqL K H sc (ns.map V.int)
structure Lone (K : PySem.W.Frag) (T' : List (Addr × Str)) (sc : Addr) (ns : List Int) (x1 y1 : V) (d1 : PyData) (n1 : Int) (l1 : Mul) (H : Hp) : Prop where
  ls : Ls K T' sc ns H
  one : Dp K H x1 d1
  first : SumT H y1 n1 (psOf l1)
structure Ltwo (K : PySem.W.Frag) (T' : List (Addr × Str)) (sc : Addr) (ns : List Int) (x1 y1 x2 y2 : V) (d1 d2 : PyData) (n1 n2 : Int) (l1 l2 : Mul) (H : Hp) : Prop where
  lo : Lone K T' sc ns x1 y1 d1 n1 l1 H
  other : Dp K H x2 d2
  second : SumT H y2 n2 (psOf l2)
section
variable {K : PySem.W.Frag} {T' : List (Addr × Str)} {sc : Addr} {ns : List Int} {x1 y1 x2 y2 : V} {d1 d2 : PyData} {n1 n2 : Int} {l1 l2 : Mul} {H H' : Hp}
theorem Ls.same (h : Ls K T' sc ns H) (e : Same H H') : Ls K T' sc ns H' := ⟨h.tabs.ext e, sqL_same e h.script⟩
theorem Lone.same (h : Lone K T' sc ns x1 y1 d1 n1 l1 H) (e : Same H H') : Lone K T' sc ns x1 y1 d1 n1 l1 H' := ⟨h.ls.same e, dp_same e h.one, sumT_s (TupS.of e) h.first⟩
theorem Ltwo.same (h : Ltwo K T' sc ns x1 y1 x2 y2 d1 d2 n1 n2 l1 l2 H) (e : Same H H') : Ltwo K T' sc ns x1 y1 x2 y2 d1 d2 n1 n2 l1 l2 H' := ⟨h.lo.same e, dp_same e h.other, sumT_s (TupS.of e) h.second⟩
end
theorem wo_mono {H H' : Hp} {p : Addr} (e : Same H H') : Same (wo H p) (wo H' p) := fun b x h => by
  by_cases hb : b = p
  · rw [hb] at h
    unfold wo at h
    rw [if_pos rfl] at h
    cases h
  · rw [wo_ne hb] at h ⊢
    exact e b x h
theorem mu26 : Sz (10 ^ (25 : Int).toNat) := by
  unfold Sz
  decide
section
variable {P : Program} {w : World} {K : PySem.W.Frag} {mg : Str → Option Value} {base : Heap} {CS CN CW f : Addr} {c : Value} {T' : List (Addr × Str)} {A : Around} {outer : List Env} {s : Shared} {H0 : Hp} {E : XK}
theorem s0 (L : TL P w K mg base CS CN CW T') (hr : Room 18 (XL P w K mg base f c A outer s H0 E).A) : ∃ t, PS (XL P w K mg base f c A outer s H0 E) (fb 0) t ∧ ∀ (D : Ends) (H : Hp) (sc : Addr) (ns : List Int) (j : Nat) (o2 o3 o4 o5 o6 o7 o8 o9 o10 o11 o12 o13 o14 o15 o16 o17 o18 o19 : Option V), Ls K T' sc ns H →
      (∀ H' p, Ls K T' sc ns (wo H' p) → Pool H' p 0 → D.nx (sgl sc (some (.int (j : Int))) (some (.ref p)) o3 o4 o5 o6 o7 o8 o9 o10 o11 o12 o13 o14 o15 o16 o17 o18 o19) H') → t D (sgl sc (some (.int (j : Int))) o2 o3 o4 o5 o6 o7 o8 o9 o10 o11 o12 o13 o14 o15 o16 o17 o18 o19) H := by
  refine ⟨_, ps_set (i := 2) scLaw.nd rfl (.inl rfl) (pe_callH L.pool (hr.mono (by decide)) (by rfl) pass0 (pa_cons (pe_op op_add (pe_callH L.cell (hr.mono (by decide)) (by rfl) pass0 (pa_cons (pv 0) (pa_cons (pv 1) pa_nil))) (pv 1)) pa_nil)), ?_⟩
  intro D H sc ns j o2 o3 o4 o5 o6 o7 o8 o9 o10 o11 o12 o13 o14 o15 o16 o17 o18 o19 h q
  refine ⟨_, rfl, _, rfl, sc, ns, j, rfl, h.script, fun n => ⟨_, rfl, n, _, rfl, rfl, _, rfl, fun p o hp pl => q _ p (h.same ?_) pl⟩⟩
  rw [wo_upd]
  exact wo_none hp
theorem s1 (L : TL P w K mg base CS CN CW T') (hr : Room 18 (XL P w K mg base f c A outer s H0 E).A) : ∃ t, PS (XL P w K mg base f c A outer s H0 E) (fb 1) t ∧ ∀ (D : Ends) (H : Hp) (sc p : Addr) (ns : List Int) (cc : Nat) (o1 o3 o4 o5 o6 o7 o8 o9 o10 o11 o12 o13 o14 o15 o16 o17 o18 o19 : Option V), Ls K T' sc ns (wo H p) → Pool H p cc → cc < 1000 →
      (∀ H' n, Ls K T' sc ns (wo H' p) → Pool H' p (cc + 1) → Sz n → D.nx (sgl sc o1 (some (.ref p)) (some (.int n)) o4 o5 o6 o7 o8 o9 o10 o11 o12 o13 o14 o15 o16 o17 o18 o19) H') → t D (sgl sc o1 (some (.ref p)) o3 o4 o5 o6 o7 o8 o9 o10 o11 o12 o13 o14 o15 o16 o17 o18 o19) H := by
  refine ⟨_, ps_set (i := 3) scLaw.nd rfl (.inl rfl) (pe_callH L.r.one (hr.mono (by decide)) (by rfl) pass0 (pa_cons (pv 2) (pa_cons (pe_lst (pa_cons pe_int (pa_cons pe_int (pa_cons (pe_un un_neg pe_int) (pa_cons pe_int (pa_cons (pe_op op_pow pe_int pe_int) pa_nil)))))) pa_nil))), ?_⟩
  intro D H sc p ns cc o1 o3 o4 o5 o6 o7 o8 o9 o10 o11 o12 o13 o14 o15 o16 o17 o18 o19 h pl hc q
  refine ⟨_, rfl, 3, rfl, 10, 25, rfl, rfl, ⟨by decide, by decide, by decide⟩, (by show 5 ≤ sizeLine; decide), fun l2 n2 => ?_⟩
  dsimp only
  have s2 := same_new (o := .lst [V.int 0, V.int 1, V.int (-3), V.int 40, V.int (10 ^ (25 : Int).toNat)]) n2
  have pl2 := pool_same s2 pl
  have lp : l2 ≠ p := fun z => by
    obtain ⟨_, _, _, e, _⟩ := pl.ex
    rw [← z, n2] at e
    cases e
  refine ⟨p, l2, cc, _, rfl, pl2, by omega, .inl (SqL.of upd_same), lp, (by show 0 < 5; decide), (by show 5 < 1000000; decide), fun y o hy pl3 => ?_⟩
  obtain ⟨n, rfl, hn⟩ : ∃ n, y = .int n ∧ Sz n := by
    simp only [List.mem_cons, List.not_mem_nil, or_false] at hy
    rcases hy with h | h | h | h | h
    · exact ⟨_, h, by unfold Sz; decide⟩
    · exact ⟨_, h, by unfold Sz; decide⟩
    · exact ⟨_, h, by unfold Sz; decide⟩
    · exact ⟨_, h, by unfold Sz; decide⟩
    · exact ⟨_, h, mu26⟩
  refine q _ n (h.same ?_) pl3 hn
  rw [wo_upd]
  exact wo_mono s2
theorem s2 (L : TL P w K mg base CS CN CW T') (hr : Room 18 (XL P w K mg base f c A outer s H0 E).A) : ∃ t, PS (XL P w K mg base f c A outer s H0 E) (fb 2) t ∧ ∀ (D : Ends) (H : Hp) (sc p : Addr) (ns : List Int) (cc : Nat) (n : Int) (o1 o4 o5 o6 o7 o8 o9 o10 o11 o12 o13 o14 o15 o16 o17 o18 o19 : Option V), Ls K T' sc ns (wo H p) → Pool H p cc → cc < 1000 → Sz n →
      (∀ H' x y d l c', Lone K T' sc ns x y d n l (wo H' p) → Drw d n l → Pool H' p c' → c' ≤ cc + 31 → D.nx (sgl sc o1 (some (.ref p)) (some (.int n)) (some x) (some y) o6 o7 o8 o9 o10 o11 o12 o13 o14 o15 o16 o17 o18 o19) H') → t D (sgl sc o1 (some (.ref p)) (some (.int n)) o4 o5 o6 o7 o8 o9 o10 o11 o12 o13 o14 o15 o16 o17 o18 o19) H := by
  refine ⟨_, (ps_asg (pe_callH L.loose (hr.mono (by decide)) (by rfl) pass0 (pa_cons (pv 2) (pa_cons (pv 3) (pa_cons (pe_callH L.pairs (hr.mono (by decide)) (by rfl) pass0 (pa_cons (pv 2) pa_nil)) pa_nil)))) (pg_tup rfl (pgs_cons (pg_name (i := 4) scLaw.nd rfl (.inl rfl)) (pgs_cons (pg_name (i := 5) scLaw.nd rfl (.inl rfl)) pgs_nil)))), ?_⟩
  intro D H sc p ns cc n o1 o4 o5 o6 o7 o8 o9 o10 o11 o12 o13 o14 o15 o16 o17 o18 o19 h pl hc hn q
  refine ⟨_, rfl, _, rfl, _, rfl, p, cc, rfl, pl, by omega, fun l xs ps H1 c1 dr1 pl1 hc1 nl hl hxs uk few mu => ?_⟩
  refine ⟨p, c1, n, l, xs, ps, rfl, pl1, by omega, hl, hxs, uk, few, fun t x y d H2 c2 dr2 pl2 hc2 ht hx sh hy => ?_⟩
  refine ⟨t, _, rfl, SqT.of ht, rfl, _, _, rfl, _, _, rfl, rfl, q H2 x y d ps c2 ⟨(h.same (wo_dr dr1)).same (wo_dr dr2), hx, hy⟩ ⟨sh, uk, few, mu, hn⟩ pl2 (by omega)⟩
theorem s3 (L : TL P w K mg base CS CN CW T') (hr : Room 18 (XL P w K mg base f c A outer s H0 E).A) : ∃ t, PS (XL P w K mg base f c A outer s H0 E) (fb 3) t ∧ ∀ (D : Ends) (H : Hp) (sc p : Addr) (ns : List Int) (cc : Nat) (x1 y1 : V) (d1 : PyData) (n1 : Int) (l1 : Mul) (o1 o3 o4 o5 o6 o7 o8 o9 o10 o11 o12 o13 o14 o15 o16 o17 o18 o19 : Option V), Lone K T' sc ns x1 y1 d1 n1 l1 (wo H p) → Pool H p cc → cc < 1000 →
      (∀ H' x y d n l c', Ltwo K T' sc ns x1 y1 x y d1 d n1 n l1 l (wo H' p) → Drw d n l → Pool H' p c' → c' ≤ cc + 32 → D.nx (sgl sc o1 (some (.ref p)) o3 o4 o5 (some x) (some y) o8 o9 o10 o11 o12 o13 o14 o15 o16 o17 o18 o19) H') → t D (sgl sc o1 (some (.ref p)) o3 o4 o5 o6 o7 o8 o9 o10 o11 o12 o13 o14 o15 o16 o17 o18 o19) H := by
  refine ⟨_, (ps_asg (pe_callH L.loose (hr.mono (by decide)) (by rfl) pass0 (pa_cons (pv 2) (pa_cons (pe_op op_sub (pe_callH L.take (hr.mono (by decide)) (by rfl) pass0 (pa_cons (pv 2) (pa_cons pe_int pa_nil))) pe_int) (pa_cons (pe_callH L.pairs (hr.mono (by decide)) (by rfl) pass0 (pa_cons (pv 2) pa_nil)) pa_nil)))) (pg_tup rfl (pgs_cons (pg_name (i := 6) scLaw.nd rfl (.inl rfl)) (pgs_cons (pg_name (i := 7) scLaw.nd rfl (.inl rfl)) pgs_nil)))), ?_⟩
  intro D H sc p ns cc x1 y1 d1 n1 l1 o1 o3 o4 o5 o6 o7 o8 o9 o10 o11 o12 o13 o14 o15 o16 o17 o18 o19 h pl hc q
  refine ⟨_, rfl, _, rfl, p, cc, 5, rfl, pl, by omega, by decide, by decide, fun r o r0 r5 plr => ?_⟩
  have k0 : Dr p H (upd H p o) := fun b x hb e => by rw [upd_ne hb]; exact e
  generalize upd H p o = Ha at k0 plr ⊢
  refine ⟨r, 2, rfl, rfl, _, rfl, p, cc + 1, rfl, plr, by omega, fun l xs ps H1 c1 dr1 pl1 hc1 nl hl hxs uk few mu => ?_⟩
  refine ⟨p, c1, r - 2, l, xs, ps, rfl, pl1, by omega, hl, hxs, uk, few, fun t x y d H2 c2 dr2 pl2 hc2 ht hx sh hy => ?_⟩
  have hn : Sz (r - 2) := Nat.lt_of_lt_of_le (show (r - 2).natAbs < 5 by omega) (by decide)
  refine ⟨t, _, rfl, SqT.of ht, rfl, _, _, rfl, _, _, rfl, rfl, q H2 x y d _ ps c2 ⟨((h.same (wo_dr k0)).same (wo_dr dr1)).same (wo_dr dr2), hx, hy⟩ ⟨sh, uk, few, mu, hn⟩ pl2 (by omega)⟩
end
end DR

namespace DR
open PySem PySem.Spec PyProof.Rows L2
theorem OneD.eq {d : PyData} {n n' : Int} {ps ps' : Mul} (h : OneD d n ps) (e : readSum d = some (n', ps')) : n' = n ∧ ps' = ps := by
  rw [h.rd] at e
  obtain ⟨h1, h2⟩ := Prod.mk.inj (Option.some.inj e)
  exact ⟨h1.symm, h2.symm⟩
theorem nil_ok : SumOk 0 [] := ⟨List.nodup_nil, (fun u hu => by cases hu), (by simp [form, keysN]), (by decide), (fun q hq => by cases hq), sz0⟩
theorem szm1 : Sz (-1) := by unfold Sz; decide
/-- what the law finds -/
def fndD (n1 n2 m : Int) (p1 p2 : Mul) : List PyData := [sumD n1 p1, sumD (n1 + 1 * n2) (form (plusA p1 (scal 1 p2))), sumD (n1 + -1 * n2) (form (plusA p1 (scal (-1) p2))), sumD (0 + m * n1) (form (plusA [] (scal m p1))), .tuple ((p2.map (·.1)).map unkD), sumD n1 p1]
def dueD (n1 n2 m : Int) (p1 p2 : Mul) : List PyData := [sumD n1 p1, sumD (n1 + 1 * n2) (form (accAll (p1 ++ scal 1 p2))), sumD (n1 + -1 * n2) (form (accAll (p1 ++ scal (-1) p2))), sumD (0 + m * n1) (form (accAll ([] ++ scal m p1)))]
theorem fnd_due {n1 n2 m : Int} {p1 p2 : Mul} (h1 : SumOk n1 p1) (h2 : SumOk n2 p2) : dueD n1 n2 m p1 p2 ++ [.tuple ((p2.map (·.1)).map unkD), sumD n1 p1] = fndD n1 n2 m p1 p2 := by
  unfold dueD fndD
  rw [← plus_one 1 h1.nod h1.nm h2.nm, ← plus_one (-1) h1.nod h1.nm h2.nm, ← plus_one (ps := []) m List.nodup_nil (fun u hu => by cases hu) h1.nm]
  rfl
theorem unks_dp {K : PySem.W.Frag} {H : Hp} : ∀ {ys : List V} {us : List (List Key)}, PySem.W.EachIs (UnkAt H) ys us → DpAll K H ys (us.map unkD)
  | _, _, .nil => .nil
  | _, _, .cons h t => .cons (dp_unk h) (unks_dp t)
theorem unksT_dp {K : PySem.W.Frag} {H : Hp} {v : V} {us : List (List Key)} (h : UnksT H v us) : Dp K H v (.tuple (us.map unkD)) := by
  obtain ⟨a, ys, rfl, h1, h2⟩ := h
  exact .tup (SqT.of h1) (unks_dp h2)
theorem plain_unks : ∀ {us : List (List Key)}, (∀ u ∈ us, NmU u) → PyData.plainAll (us.map unkD) = true ∧ PyData.depthAll (us.map unkD) ≤ 3
  | [], _ => ⟨rfl, by simp [PyData.depthAll]⟩
  | u :: us, h => by
    obtain ⟨a, b⟩ := plain_unks (us := us) fun u' hu => h u' (List.mem_cons_of_mem _ hu)
    have h1 := plain_unkD (h u (List.mem_cons_self ..))
    obtain ⟨k, o, e, _⟩ := h u (List.mem_cons_self ..)
    have h2 : (unkD u).depth ≤ 3 := by
      rw [e]
      cases o <;> simp [unkD, keyDat, PyData.depth, PyData.depthAll]
    rw [List.map_cons]
    refine ⟨by simp [PyData.plainAll, h1, a], ?_⟩
    rw [PyData.depthAll]
    exact Nat.max_le.mpr ⟨h2, b⟩
theorem fnd_plain {n1 n2 m : Int} {p1 p2 : Mul} (h1 : SumOk n1 p1) (h2 : SumOk n2 p2) : (PyData.list (fndD n1 n2 m p1 p2)).plain = true ∧ (PyData.list (fndD n1 n2 m p1 p2)).depth ≤ 60 := by
  have f : ∀ k, ∀ u ∈ (form (plusA p1 (scal k p2))).map (·.1), NmU u := fun k => form_nm (plusA_nm (scal_nm h2.nm) h1.nm)
  have g : ∀ u ∈ (form (plusA [] (scal m p1))).map (·.1), NmU u := form_nm (plusA_nm (scal_nm h1.nm) fun u hu => by cases hu)
  have a1 := SumOk.plain (n := n1) h1.nm
  have a2 := SumOk.plain (n := n1 + 1 * n2) (f 1)
  have a3 := SumOk.plain (n := n1 + -1 * n2) (f (-1))
  have a4 := SumOk.plain (n := 0 + m * n1) g
  obtain ⟨a5, b5⟩ := plain_unks h2.nm
  have b1 := sum_depth (n := n1) h1.nm
  have b2 := sum_depth (n := n1 + 1 * n2) (f 1)
  have b3 := sum_depth (n := n1 + -1 * n2) (f (-1))
  have b4 := sum_depth (n := 0 + m * n1) g
  refine ⟨by simp only [fndD, PyData.plain, PyData.plainAll, a1, a2, a3, a4, a5, Bool.and_self], ?_⟩
  simp only [fndD, PyData.depth, PyData.depthAll]
  omega
section
variable {P : Program} {w : World} {K : PySem.W.Frag} {mg : Str → Option Value} {base : Heap} {CS CN CW f : Addr} {c : Value} {T' : List (Addr × Str)} {A : Around} {outer : List Env} {s : Shared} {H0 : Hp} {E : XK}
theorem s4 (L : TL P w K mg base CS CN CW T') (hr : Room 18 (XL P w K mg base f c A outer s H0 E).A) (hg : (XL P w K mg base f c A outer s H0 E).A.guards = some []) : ∃ t, PS (XL P w K mg base f c A outer s H0 E) (fb 4) t ∧ ∀ (D : Ends) (H : Hp) (sc p : Addr) (ns : List Int) (cc : Nat) (x1 y1 x2 y2 : V) (d1 d2 : PyData) (n1 n2 : Int) (l1 l2 : Mul) (o1 o3 o8 o9 o10 o11 o12 o13 o14 o15 o16 o17 o18 o19 : Option V), Ltwo K T' sc ns x1 y1 x2 y2 d1 d2 n1 n2 l1 l2 (wo H p) → Drw d1 n1 l1 → Drw d2 n2 l2 → Pool H p cc → cc < 1000 →
      (∀ H' m, Ltwo K T' sc ns x1 y1 x2 y2 d1 d2 n1 n2 l1 l2 (wo H' p) → Pool H' p (cc + 1) → Sz m → D.nx (sgl sc o1 (some (.ref p)) o3 (some x1) (some y1) (some x2) (some y2) (some (.str (PyData.list [d1, d2]).shown)) (some (.int m)) o10 o11 o12 o13 o14 o15 o16 o17 o18 o19) H') → t D (sgl sc o1 (some (.ref p)) o3 (some x1) (some y1) (some x2) (some y2) o8 o9 o10 o11 o12 o13 o14 o15 o16 o17 o18 o19) H := by
  have hu := hr.un
  refine ⟨_, ps_par (by rfl) scLaw.nd (i := 8) (j := 9) rfl rfl (by decide) rfl rfl (pa_cons (pe_callB (GA.call_repr_dat hg (by omega)) (by rfl) L.repr (by decide +kernel) (pa_cons (pe_lst (pa_cons (pv 4) (pa_cons (pv 6) pa_nil))) pa_nil)) (pa_cons (pe_callH L.r.one (hr.mono (by decide)) (by rfl) pass0 (pa_cons (pv 2) (pa_cons (pe_lst (pa_cons pe_int (pa_cons pe_int (pa_cons (pe_un un_neg pe_int) (pa_cons pe_int (pa_cons (pe_un un_neg (pe_op op_pow pe_int pe_int)) pa_nil)))))) pa_nil))) pa_nil)) (by rfl), ?_⟩
  intro D H sc p ns cc x1 y1 x2 y2 d1 d2 n1 n2 l1 l2 o1 o3 o8 o9 o10 o11 o12 o13 o14 o15 o16 o17 o18 o19 h w1 w2 pl hc q
  refine ⟨_, rfl, _, rfl, sz2, fun a na => ?_⟩
  have sa := same_new (o := .lst [x1, x2]) na
  have ga : upd H a (.lst [x1, x2]) a = some (.lst [x1, x2]) := upd_same
  generalize upd H a (.lst [x1, x2]) = H1 at sa ga ⊢
  obtain ⟨_, b1, c1⟩ := shape_pd w1.sh w1.uk
  obtain ⟨_, b2, c2⟩ := shape_pd w2.sh w2.uk
  have e1 := shape_show w1.sh w1.uk w1.nz fun q hq => mu_sz (w1.mu q hq)
  have e2 := shape_show w2.sh w2.uk w2.nz fun q hq => mu_sz (w2.mu q hq)
  have f1 := shape_len w1.sh w1.uk w1.nz (fun q hq => mu_sz (w1.mu q hq)) w1.few
  have f2 := shape_len w2.sh w2.uk w2.nz (fun q hq => mu_sz (w2.mu q hq)) w2.few
  refine ⟨a, .list [d1, d2], rfl, .lst (SqL.of ga) (.cons (dp_same (wo_sub.trans sa) h.lo.one) (.cons (dp_same (wo_sub.trans sa) h.other) .nil)), by simp [PyData.showable, PyData.showableAll, e1, e2], by simp [PyData.hasDict, PyData.hasDictAll, c1, c2], by simp only [PyData.depth, PyData.depthAll]; omega, two_len f1 f2, ?_⟩
  refine ⟨_, rfl, 1, rfl, 10, 20, rfl, rfl, ⟨by decide, by decide, by decide⟩, _, rfl, (by show 5 ≤ sizeLine; decide), fun l5 n5 => ?_⟩
  dsimp only
  have s2 := same_new (o := .lst [V.int 0, V.int 1, V.int (-1), V.int 3, V.int (-10 ^ (20 : Int).toNat)]) n5
  have pl2 := pool_same (sa.trans s2) pl
  have lp : l5 ≠ p := fun z => by
    obtain ⟨_, _, _, e, _⟩ := (pool_same sa pl).ex
    rw [← z, n5] at e
    cases e
  refine ⟨p, l5, cc, _, rfl, pl2, by omega, .inl (SqL.of upd_same), lp, (by show 0 < 5; decide), (by show 5 < 1000000; decide), fun y o hy pl3 => ?_⟩
  obtain ⟨m, rfl, hm⟩ : ∃ m, y = .int m ∧ Sz m := by
    simp only [List.mem_cons, List.not_mem_nil, or_false] at hy
    rcases hy with h | h | h | h | h
    · exact ⟨_, h, sz0⟩
    · exact ⟨_, h, sz1⟩
    · exact ⟨_, h, szm1⟩
    · exact ⟨_, h, by unfold Sz; decide⟩
    · exact ⟨_, h, by unfold Sz; decide⟩
  refine ⟨_, _, rfl, q _ m (h.same ?_) pl3 hm⟩
  rw [wo_upd]
  exact wo_mono (sa.trans s2)
end
end DR

namespace DR
open PySem PySem.Spec PyProof.Rows L2
section
variable {P : Program} {w : World} {K : PySem.W.Frag} {mg : Str → Option Value} {base : Heap} {CS CN CW f : Addr} {c : Value} {T' : List (Addr × Str)} {A : Around} {outer : List Env} {s : Shared} {H0 : Hp} {E : XK}
theorem s5 (L : TL P w K mg base CS CN CW T') (hr : Room 18 (XL P w K mg base f c A outer s H0 E).A) : ∃ t, PS (XL P w K mg base f c A outer s H0 E) (fb 5) t ∧ ∀ (D : Ends) (H : Hp) (sc p : Addr) (ns : List Int) (x1 y1 x2 y2 : V) (d1 d2 : PyData) (n1 n2 : Int) (l1 l2 : Mul) (m : Int) (o1 o3 o8 o10 o11 o12 o13 o14 o15 o16 o17 o18 o19 : Option V), Ltwo K T' sc ns x1 y1 x2 y2 d1 d2 n1 n2 l1 l2 (wo H p) → Drw d1 n1 l1 → Drw d2 n2 l2 → Sz m →
      (∀ H' F, Same H H' → Dp K H' (.ref F) (.list (fndD n1 n2 m (psOf l1) (psOf l2))) → D.nx (sgl sc o1 (some (.ref p)) o3 (some x1) (some y1) (some x2) (some y2) o8 (some (.int m)) (some (.ref F)) o11 o12 o13 o14 o15 o16 o17 o18 o19) H') → t D (sgl sc o1 (some (.ref p)) o3 (some x1) (some y1) (some x2) (some y2) o8 (some (.int m)) o10 o11 o12 o13 o14 o15 o16 o17 o18 o19) H := by
  refine ⟨_, ps_set (i := 10) scLaw.nd rfl (.inl rfl) (pe_lst (pa_cons (pe_callH L.r.sumOf (hr.mono (by decide)) (by rfl) (passE (E := E) (takes_of rfl rfl rfl rfl)) (pa_cons (pv 4) pa_nil)) (pa_cons (pe_callH L.r.plus (hr.mono (by decide)) (by rfl) (passE (E := E) (takes_of rfl rfl rfl rfl)) (pa_cons (pv 4) (pa_cons (pv 6) pa_nil))) (pa_cons (pe_callH L.r.minus (hr.mono (by decide)) (by rfl) (passE (E := E) (takes_of rfl rfl rfl rfl)) (pa_cons (pv 4) (pa_cons (pv 6) pa_nil))) (pa_cons (pe_callH L.r.times (hr.mono (by decide)) (by rfl) (passE (E := E) (takes_of rfl rfl rfl rfl)) (pa_cons (pv 4) (pa_cons (pv 9) pa_nil))) (pa_cons (pe_callH L.r.unks (hr.mono (by decide)) (by rfl) (passE (E := E) (takes_of rfl rfl rfl rfl)) (pa_cons (pv 6) pa_nil)) (pa_cons (pe_callH L.r.sumOf (hr.mono (by decide)) (by rfl) (passE (E := E) (takes_of rfl rfl rfl rfl)) (pa_cons (pe_callH L.r.sumOf (hr.mono (by decide)) (by rfl) (passE (E := E) (takes_of rfl rfl rfl rfl)) (pa_cons (pv 4) pa_nil)) pa_nil)) pa_nil))))))), ?_⟩
  intro D H sc p ns x1 y1 x2 y2 d1 d2 n1 n2 l1 l2 m o1 o3 o8 o10 o11 o12 o13 o14 o15 o16 o17 o18 o19 h w1 w2 hm q
  have t1 : Th K H x1 d1 := .dat (dp_same wo_sub h.lo.one)
  have t2 : Th K H x2 d2 := .dat (dp_same wo_sub h.other)
  have u1 := w1.ok
  have u2 := w2.ok
  refine ⟨_, rfl, x1, d1, rfl, t1, w1.oks, fun n ps e v1 H1 s1 g1 => ?_, fun e => w1.oned.not e⟩
  obtain ⟨rfl, rfl⟩ := w1.oned.eq e
  refine ⟨_, rfl, _, rfl, x1, x2, d1, d2, rfl, th_same s1 t1, w1.oks, fun e => w1.oned.not e, fun n' ps e1 => ⟨th_same s1 t2, w2.oks, fun e => w2.oned.not e, fun m' qs e2 => ?_⟩⟩
  obtain ⟨rfl, rfl⟩ := w1.oned.eq e1
  obtain ⟨rfl, rfl⟩ := w2.oned.eq e2
  refine ⟨u1.fit u2 sz1, fun v2 H2 s2 g2 => ?_⟩
  have s02 := s1.trans s2
  refine ⟨_, rfl, _, rfl, x1, x2, d1, d2, rfl, th_same s02 t1, w1.oks, fun e => w1.oned.not e, fun n' ps e1 => ⟨th_same s02 t2, w2.oks, fun e => w2.oned.not e, fun m' qs e2 => ?_⟩⟩
  obtain ⟨rfl, rfl⟩ := w1.oned.eq e1
  obtain ⟨rfl, rfl⟩ := w2.oned.eq e2
  refine ⟨u1.fit u2 szm1, fun v3 H3 s3 g3 => ?_⟩
  have s03 := s02.trans s3
  refine ⟨_, rfl, _, rfl, x1, .int m, d1, .int m, rfl, th_same s03 t1, w1.oks, fun e => w1.oned.not e, fun n' ps e1 => ⟨.dat (.int m), fun z => (by cases z), fun k ek => ?_⟩⟩
  obtain ⟨rfl, rfl⟩ := w1.oned.eq e1
  obtain rfl := PyData.int.inj ek
  refine ⟨nil_ok.fit u1 hm, fun v4 H4 s4 g4 => ?_⟩
  have s04 := s03.trans s4
  refine ⟨_, rfl, x2, d2, rfl, th_same s04 t2, w2.oks, fun e => w2.oned.not e, fun m' qs e2 => ?_⟩
  obtain ⟨rfl, rfl⟩ := w2.oned.eq e2
  refine ⟨by have := u2.few; omega, fun v5 H5 s5 g5 => ?_⟩
  have s05 := s04.trans s5
  refine ⟨_, rfl, x1, d1, rfl, th_same s05 t1, w1.oks, fun n' ps e1 v6 H6 s6 g6 => ?_, fun e => w1.oned.not e⟩
  obtain ⟨rfl, rfl⟩ := w1.oned.eq e1
  refine ⟨v6, sumD _ _, rfl, .dat (sumT_dp g6), u1.oks, fun n' ps e1 v7 H7 s7 g7 => ?_, fun e => u1.oned.not e⟩
  obtain ⟨rfl, rfl⟩ := u1.oned.eq e1
  refine ⟨(by show 6 ≤ sizeLine; decide), fun F hF => ?_⟩
  have s8 := same_new (o := .lst [v1, v2, v3, v4, v5, v7]) hF
  have s78 := s7.trans s8
  have s68 := s6.trans s78
  have s58 := s5.trans s68
  have s48 := s4.trans s58
  have s38 := s3.trans s48
  have s28 := s2.trans s38
  have dp := fun {v : V} {n : Int} {ps : Mul} {Ha Hb : Hp} (e : Same Ha Hb) (g : SumT Ha v n ps) => sumT_dp (K := K) (sumT_s (TupS.of e) g)
  exact q _ F (s1.trans s28) (.lst (SqL.of upd_same) (.cons (dp s28 g1) (.cons (dp s38 g2) (.cons (dp s48 g3) (.cons (dp s58 g4) (.cons (dp_same s68 (unksT_dp g5)) (.cons (dp s8 g7) .nil)))))))
theorem s6 (L : TL P w K mg base CS CN CW T') (hr : Room 18 (XL P w K mg base f c A outer s H0 E).A) : ∃ t, PS (XL P w K mg base f c A outer s H0 E) (fb 6) t ∧ ∀ (D : Ends) (H : Hp) (sc p : Addr) (ns : List Int) (x1 y1 x2 y2 : V) (d1 d2 : PyData) (n1 n2 : Int) (l1 l2 : Mul) (m : Int) (o1 o3 o8 o10 o11 o12 o13 o14 o15 o16 o17 o18 o19 : Option V), Ltwo K T' sc ns x1 y1 x2 y2 d1 d2 n1 n2 l1 l2 (wo H p) → Drw d1 n1 l1 → Drw d2 n2 l2 → Sz m →
      (∀ H' U us, Same H H' → H' U = some (.lst us) → DpAll K H' us (dueD n1 n2 m (psOf l1) (psOf l2)) → D.nx (sgl sc o1 (some (.ref p)) o3 (some x1) (some y1) (some x2) (some y2) o8 (some (.int m)) o10 (some (.ref U)) o12 o13 o14 o15 o16 o17 o18 o19) H') → t D (sgl sc o1 (some (.ref p)) o3 (some x1) (some y1) (some x2) (some y2) o8 (some (.int m)) o10 o11 o12 o13 o14 o15 o16 o17 o18 o19) H := by
  refine ⟨_, ps_set (i := 11) scLaw.nd rfl (.inl rfl) (pe_lst (pa_cons (pv 5) (pa_cons (pe_callH L.added (hr.mono (by decide)) (by rfl) pass0 (pa_cons (pv 5) (pa_cons (pv 7) (pa_cons pe_int pa_nil)))) (pa_cons (pe_callH L.added (hr.mono (by decide)) (by rfl) pass0 (pa_cons (pv 5) (pa_cons (pv 7) (pa_cons (pe_un un_neg pe_int) pa_nil)))) (pa_cons (pe_callH L.added (hr.mono (by decide)) (by rfl) pass0 (pa_cons (pe_tup (pa_cons pe_int (pa_cons (pe_tup pa_nil) pa_nil))) (pa_cons (pv 5) (pa_cons (pv 9) pa_nil)))) pa_nil))))), ?_⟩
  intro D H sc p ns x1 y1 x2 y2 d1 d2 n1 n2 l1 l2 m o1 o3 o8 o10 o11 o12 o13 o14 o15 o16 o17 o18 o19 h w1 w2 hm q
  have g1 := sumT_s (TupS.of wo_sub) h.lo.first
  have g2 := sumT_s (TupS.of wo_sub) h.second
  have u1 := w1.ok
  have u2 := w2.ok
  have up := fun {v : V} {n : Int} {ps : Mul} {Ha Hb : Hp} (e : Same Ha Hb) (g : SumT Ha v n ps) => sumT_s (TupS.of e) g
  refine ⟨_, rfl, _, rfl, _, rfl, y1, y2, n1, n2, 1, _, _, rfl, g1, g2, u1.fitA u2 sz1, fun v2 H2 s2 k2 => ?_⟩
  refine ⟨_, rfl, _, rfl, 1, rfl, y1, y2, n1, n2, -1, _, _, rfl, up s2 g1, up s2 g2, u1.fitA u2 szm1, fun v3 H3 s3 k3 => ?_⟩
  refine ⟨(by show 0 ≤ sizeLine; decide), fun p1 h1 => ⟨sz2, fun p2 h2 => ?_⟩⟩
  have e1 := same_new (o := .tup []) h1
  have e2 := same_new (o := .tup [V.int 0, V.ref p1]) h2
  have z0 : SumT (upd (upd H3 p1 (.tup [])) p2 (.tup [V.int 0, V.ref p1])) (.ref p2) 0 [] := ⟨p2, p1, [], rfl, upd_same, e2 _ _ upd_same, .nil⟩
  have s34 := e1.trans e2
  generalize upd (upd H3 p1 (.tup [])) p2 (.tup [V.int 0, V.ref p1]) = H4 at s34 z0 ⊢
  have s04 := (s2.trans s3).trans s34
  refine ⟨_, rfl, _, rfl, .ref p2, y1, 0, n1, m, [], _, rfl, z0, up s04 g1, nil_ok.fitA u1 hm, fun v4 H5 s5 k5 => ⟨(by show 4 ≤ sizeLine; decide), fun U hU => ?_⟩⟩
  have s6 := same_new (o := .lst [y1, v2, v3, v4]) hU
  have s56 := s5.trans s6
  have s36 := s34.trans s56
  have s26 := s3.trans s36
  have s06 := s2.trans s26
  refine q _ U _ s06 upd_same (.cons (sumT_dp (up s06 g1)) (.cons (sumT_dp (up s26 k2)) (.cons (sumT_dp (up s36 k3)) (.cons (sumT_dp (up s6 k5)) .nil))))
theorem s7 (L : TL P w K mg base CS CN CW T') (hr : Room 18 (XL P w K mg base f c A outer s H0 E).A) : ∃ t, PS (XL P w K mg base f c A outer s H0 E) (fb 7) t ∧ ∀ (D : Ends) (H : Hp) (sc p F U : Addr) (ns : List Int) (x1 y1 x2 y2 : V) (d1 d2 : PyData) (n1 n2 : Int) (l1 l2 : Mul) (m : Int) (us : List V) (o1 o3 o8 o12 o13 o14 o15 o16 o17 o18 o19 : Option V), Ltwo K T' sc ns x1 y1 x2 y2 d1 d2 n1 n2 l1 l2 (wo H p) → Drw d1 n1 l1 → Drw d2 n2 l2 → Dp K H (.ref F) (.list (fndD n1 n2 m (psOf l1) (psOf l2))) → H U = some (.lst us) → DpAll K H us (dueD n1 n2 m (psOf l1) (psOf l2)) →
      (∀ H', Same H H' → D.nx (sgl sc o1 (some (.ref p)) o3 (some x1) (some y1) (some x2) (some y2) o8 (some (.int m)) (some (.ref F)) (some (.ref U)) o12 o13 o14 o15 o16 o17 o18 o19) H') → t D (sgl sc o1 (some (.ref p)) o3 (some x1) (some y1) (some x2) (some y2) o8 (some (.int m)) (some (.ref F)) (some (.ref U)) o12 o13 o14 o15 o16 o17 o18 o19) H := by
  refine ⟨_, (ps_if (pt_cmpR (op_neP hr) (pv 10) (pe_op op_cat (pv 11) (pe_lst (pa_cons (pe_callTy call_tuple_of (by rfl) L.r.bi.tuple (by decide +kernel) (pa_cons (pe_lc (own := [("unknown", 12), ("many", 9)]) (g := gTup K 2 (gCons (gName 12) (gCons (gName 9) gNil))) (tt := tYes) (te := tVar 12) rfl scLaw.nd (pi_tup (pe_ix ix_tup (pv 7) pe_int (fun _ _ => rfl))) (blkOk_by (N := NL) (sc := defScope sLaw) (by decide +kernel)) (fun _ _ _ _ _ => (pg_tup rfl (pgs_cons (pg_name (i := 12) scLaw.nd rfl (.inl rfl)) (pgs_cons (pg_name (i := 9) scLaw.nd rfl (.inl rfl)) pgs_nil)))) (fun _ _ _ _ _ => pts_nil) (fun _ _ _ _ _ => (pv 12))) pa_nil)) (pa_cons (pv 5) pa_nil)))) (nomark _)) (pss_one (ps_ret pe_bl)) pss_nil), ?_⟩
  intro D H sc p F U ns x1 y1 x2 y2 d1 d2 n1 n2 l1 l2 m us o1 o3 o8 o12 o13 o14 o15 o16 o17 o18 o19 h w1 w2 hF hU hus q
  have u1 := w1.ok
  have u2 := w2.ok
  have few := u2.few
  obtain ⟨a, b, xs, rfl, ha, hb, hxs⟩ := sumT_s (TupS.of wo_sub) h.second
  have lx : xs.length = (psOf l2).length := hxs.length
  refine ⟨_, rfl, _, rfl, _, rfl, a, _, _, _, rfl, rfl, SqT.of ha, at_of (i := 1) rfl, b, rfl, ⟨_, SqT.of hb⟩, fun D0 hD => ?_⟩
  refine lc_it (walk_tup (xs := xs)) (fun i H4 => (∀ c o, c ≠ D0 → H c = some o → H4 c = some o) ∧ ∃ ys, H4 D0 = some (.lst ys) ∧ ys.length = i ∧ PySem.W.EachIs (UnkAt H4) ys (((psOf l2).take i).map (·.1)))
    ⟨fun c o hc e => by rw [upd_ne hc]; exact e, [], upd_same, rfl, .nil⟩ (fun i H4 _ ⟨kp, _⟩ => SqT.of (kp _ _ (ne_of_none hb hD) hb)) ?_ ?_
  · rintro i x H4 H4' hi ⟨kp, ys, hD4, hl, he⟩ ⟨rfl, hx⟩
    obtain ⟨u, mm, cc, e, hum, rfl, hc, he1⟩ := part_get hxs hx
    have hi2 : i < (psOf l2).length := (List.getElem?_eq_some_iff.mp hum).1
    have he4 := kp _ _ (ne_of_none he1 hD) he1
    refine ⟨cc, _, rfl, SqT.of (kp _ _ (ne_of_none hc hD) hc), rfl, _, _, rfl, _, _, rfl, rfl, rfl, yes_go (iteT ⟨_, rfl, ys, hD4, small1000 (by omega), fun c' o hc' e' => ?_, ys ++ [.ref e], upd_same, by simp; omega, ?_⟩)⟩
    · rw [upd_ne hc']
      exact kp c' o hc' e'
    · have tk : ((psOf l2).take (i + 1)).map (·.1) = ((psOf l2).take i).map (·.1) ++ [u] := by
        rw [List.take_add_one, hum]
        simp
      rw [tk]
      exact each_snoc (unkAt_upd hD4 ⟨e, rfl, he4⟩) (each_upd hD4 he)
  · rintro H4 ⟨kp, ys, hD4, hl, he⟩
    rw [lx, List.take_length] at he
    have s4 : Same H H4 := fun c o e => kp c o (ne_of_none e hD) e
    refine ⟨D0, ys, rfl, .inl ⟨SqL.of hD4, fun p5 n5 => ?_⟩⟩
    have s5 := same_new (o := .tup ys) n5
    have g5 : upd H4 p5 (.tup ys) p5 = some (.tup ys) := upd_same
    have he5 := each_same s5 he
    generalize upd H4 p5 (.tup ys) = H5 at s5 g5 he5 ⊢
    refine ⟨_, rfl, (by show 2 ≤ sizeLine; decide), fun p6 n6 => ?_⟩
    have s6 := same_new (o := .lst [V.ref p5, y1]) n6
    have g6 : upd H5 p6 (.lst [V.ref p5, y1]) p6 = some (.lst [V.ref p5, y1]) := upd_same
    generalize upd H5 p6 (.lst [V.ref p5, y1]) = H6 at s6 g6 ⊢
    have s06 := (s4.trans s5).trans s6
    have lu : us.length = 4 := dps_len hus
    refine ⟨U, p6, us, _, rfl, rfl, s06 _ _ hU, g6, sz1000 (by rw [lu]; show 4 + 2 ≤ 1000; decide), fun p7 n7 => ?_⟩
    have s7 := same_new (o := .lst (us ++ [V.ref p5, y1])) n7
    have g7 : upd H6 p7 (.lst (us ++ [V.ref p5, y1])) p7 = some (.lst (us ++ [V.ref p5, y1])) := upd_same
    generalize upd H6 p7 (.lst (us ++ [V.ref p5, y1])) = H7 at s7 g7 ⊢
    have s07 := s06.trans s7
    have all : DpAll K H7 (us ++ [V.ref p5, y1]) (fndD n1 n2 m (psOf l1) (psOf l2)) := by
      rw [← fnd_due u1 u2]
      have tl : DpAll K H7 [V.ref p5, y1] [.tuple (((psOf l2).map (·.1)).map unkD), sumD n1 (psOf l1)] := .cons (dp_same (s6.trans s7) (.tup (SqT.of g5) (unks_dp he5))) (.cons (sumT_dp (sumT_s (TupS.of (wo_sub.trans s07)) h.lo.first)) .nil)
      have app : ∀ {as : List V} {ds : List PyData}, DpAll K H7 as ds → DpAll K H7 (as ++ [V.ref p5, y1]) (ds ++ [.tuple (((psOf l2).map (·.1)).map unkD), sumD n1 (psOf l1)]) := fun h1 => by
        rename_i as ds
        induction ds generalizing as with
        | nil =>
          cases h1
          exact tl
        | cons d ds ih =>
          cases h1 with
          | cons g t => exact .cons g (ih t)
      exact app (dps_same s07 hus)
    obtain ⟨pl, dep⟩ := fnd_plain (n1 := n1) (n2 := n2) (m := m) u1 u2
    refine ⟨_, _, dp_same s07 hF, .lst (SqL.of g7) all, pl, pl, dep, _, rfl, ?_⟩
    rw [SeqAt.eqv_refl_plain _ pl]
    exact iteF (q H7 s07)
end
end DR

namespace DR
open PySem PySem.Spec PyProof.Rows L2
/-! ### the worths that are drawn -/
def wU : List (List Key) := [[.inr sPiece, .inr "a"], [.inr sName, .inr "a"], [.inr sIn, .inl 2], [.inr sPiece, .inr "main"]]
abbrev Gw := List Key × PyData × Int × Mul
def WV (K : PySem.W.Frag) (M : Hp) (kv : List Key × V) (g : Gw) : Prop := ∃ t x y, kv.1 = g.1 ∧ kv.2 = .ref t ∧ M t = some (.tup [x, y]) ∧ Dp K M x g.2.1 ∧ Drw g.2.1 g.2.2.1 g.2.2.2 ∧ SumT M y g.2.2.1 (psOf g.2.2.2)
theorem wv_same {K : PySem.W.Frag} {M M' : Hp} (e : Same M M') {kv : List Key × V} {g : Gw} (h : WV K M kv g) : WV K M' kv g := by
  obtain ⟨t, x, y, h1, h2, h3, h4, h5, h6⟩ := h
  exact ⟨t, x, y, h1, h2, e _ _ h3, dp_same e h4, h5, sumT_s (TupS.of e) h6⟩
theorem wo2_upd {H : Hp} {p W : Addr} {o : HO} : wo (wo (upd H W o) p) W = wo (wo H p) W := by
  funext b
  by_cases hb : b = W
  · rw [hb]
    unfold wo
    rw [if_pos rfl, if_pos rfl]
  · rw [wo_ne hb, wo_ne hb]
    by_cases hp : b = p
    · rw [hp]
      unfold wo
      rw [if_pos rfl, if_pos rfl]
    · rw [wo_ne hp, wo_ne hp, upd_ne hb]
theorem take_two (xs : List V) : cutV xs none (some 2) = xs.take 2 := by
  unfold cutV
  rw [HT.sIx_none, show HT.sIx xs.length xs.length (some 2) = min 2 xs.length from HT.sIx_nat _ _ 2, List.drop_zero, Nat.sub_zero]
  match xs with
  | [] => rfl
  | [_] => rfl
  | _ :: _ :: l => rw [Nat.min_eq_left (by simp)]
theorem each_take {α β : Type} {R : α → β → Prop} : ∀ (n : Nat) {xs : List α} {ys : List β}, PySem.W.EachIs R xs ys → PySem.W.EachIs R (xs.take n) (ys.take n)
  | 0, _, _, _ => .nil
  | n + 1, _, _, .nil => .nil
  | n + 1, _, _, .cons h t => .cons h (each_take n t)
structure Wl (K : PySem.W.Frag) (T' : List (Addr × Str)) (sc : Addr) (ns : List Int) (x1 y1 x2 y2 : V) (d1 d2 : PyData) (n1 n2 : Int) (l1 l2 : Mul) (p W : Addr) (kvs : List (List Key × V)) (gs : List Gw) (H : Hp) : Prop where
  two : Ltwo K T' sc ns x1 y1 x2 y2 d1 d2 n1 n2 l1 l2 (wo (wo H p) W)
  dict : H W = some (.dT kvs)
  each : PySem.W.EachIs (WV K (wo (wo H p) W)) kvs gs
  ne : W ≠ p
theorem Wl.same {K : PySem.W.Frag} {T' : List (Addr × Str)} {sc : Addr} {ns : List Int} {x1 y1 x2 y2 : V} {d1 d2 : PyData} {n1 n2 : Int} {l1 l2 : Mul} {p W : Addr} {kvs : List (List Key × V)} {gs : List Gw} {H H' : Hp} (h : Wl K T' sc ns x1 y1 x2 y2 d1 d2 n1 n2 l1 l2 p W kvs gs H) (e : Same H H') : Wl K T' sc ns x1 y1 x2 y2 d1 d2 n1 n2 l1 l2 p W kvs gs H' := by
  have e2 := wo_mono (p := W) (wo_mono (p := p) e)
  exact ⟨h.two.same e2, e _ _ h.dict, eachs_imp (fun _ _ => wv_same e2) h.each, h.ne⟩
theorem but_wo {H : Hp} {W : Addr} {kvs : List (List Key × V)} (h : H W = some (.dT kvs)) : ButD W H (wo H W) := by
  refine ⟨fun b x hb e => by rw [wo_ne hb]; exact e, fun xs z => ?_, fun xs z => ?_, fun l z => ?_⟩
  · rcases z with z | ⟨o', z⟩ <;> · rw [h] at z; cases z
  · rcases z with z | ⟨o', z⟩ <;> · rw [h] at z; cases z
  · rw [h] at z
    cases z
theorem tups_dict {H : Hp} {W : Addr} {kvs : List (List Key × V)} (h : H W = some (.dT kvs)) : TupS H (wo H W) := fun b x hb => by
  rw [wo_ne (fun z => by
    rw [z, h] at hb
    cases hb)]
  exact hb
section
variable {P : Program} {w : World} {K : PySem.W.Frag} {mg : Str → Option Value} {base : Heap} {CS CN CW f : Addr} {c : Value} {T' : List (Addr × Str)} {A : Around} {outer : List Env} {s : Shared} {H0 : Hp} {E : XK}
theorem s8 : ∃ t, PS (XL P w K mg base f c A outer s H0 E) (fb 8) t ∧ ∀ (D : Ends) (H : Hp) (sc p : Addr) (ns : List Int) (cc : Nat) (x1 y1 x2 y2 : V) (d1 d2 : PyData) (n1 n2 : Int) (l1 l2 : Mul) (o1 o3 o8 o9 o10 o11 o12 o13 o14 o15 o16 o17 o18 o19 : Option V), Ltwo K T' sc ns x1 y1 x2 y2 d1 d2 n1 n2 l1 l2 (wo H p) → Pool H p cc →
      (∀ H' W, Wl K T' sc ns x1 y1 x2 y2 d1 d2 n1 n2 l1 l2 p W [] [] H' → Pool H' p cc → D.nx (sgl sc o1 (some (.ref p)) o3 (some x1) (some y1) (some x2) (some y2) o8 o9 o10 o11 o12 (some (.ref W)) o14 o15 o16 o17 o18 o19) H') → t D (sgl sc o1 (some (.ref p)) o3 (some x1) (some y1) (some x2) (some y2) o8 o9 o10 o11 o12 o13 o14 o15 o16 o17 o18 o19) H := by
  refine ⟨_, ps_set (i := 13) scLaw.nd rfl (.inr rfl) pe_dnewT, ?_⟩
  intro D H sc p ns cc x1 y1 x2 y2 d1 d2 n1 n2 l1 l2 o1 o3 o8 o9 o10 o11 o12 o13 o14 o15 o16 o17 o18 o19 h pl q
  refine fun W hW => ?_
  have Wp : W ≠ p := fun z => by
    obtain ⟨_, _, _, e, _⟩ := pl.ex
    rw [← z, hW] at e
    cases e
  refine q _ W ⟨?_, upd_same, .nil, Wp⟩ (pool_put pl Wp.symm)
  rw [wo2_upd]
  exact h.same (wo_none (by rw [wo_ne Wp]; exact hW))
theorem s9 (L : TL P w K mg base CS CN CW T') (hr : Room 18 (XL P w K mg base f c A outer s H0 E).A) : ∃ t, PS (XL P w K mg base f c A outer s H0 E) (fb 9) t ∧ ∀ (D : Ends) (H : Hp) (sc p W : Addr) (ns : List Int) (cc : Nat) (x1 y1 x2 y2 : V) (d1 d2 : PyData) (n1 n2 : Int) (l1 l2 : Mul) (o1 o3 o8 o9 o10 o11 o12 o14 o15 o16 o17 o18 o19 : Option V), Wl K T' sc ns x1 y1 x2 y2 d1 d2 n1 n2 l1 l2 p W [] [] H → Pool H p cc → cc < 500 →
      (∀ H' o12 kvs gs c', Wl K T' sc ns x1 y1 x2 y2 d1 d2 n1 n2 l1 l2 p W kvs gs H' → (kvs.map (·.1)).Sublist wU → Pool H' p c' → c' ≤ cc + 160 → D.nx (sgl sc o1 (some (.ref p)) o3 (some x1) (some y1) (some x2) (some y2) o8 o9 o10 o11 o12 (some (.ref W)) o14 o15 o16 o17 o18 o19) H') → t D (sgl sc o1 (some (.ref p)) o3 (some x1) (some y1) (some x2) (some y2) o8 o9 o10 o11 o12 (some (.ref W)) o14 o15 o16 o17 o18 o19) H := by
  refine ⟨_, (ps_for (passes_of rfl) rfl (pi_list (pe_lst (pa_cons (pe_tup (pa_cons pe_str (pa_cons pe_str pa_nil))) (pa_cons (pe_tup (pa_cons pe_str (pa_cons pe_str pa_nil))) (pa_cons (pe_tup (pa_cons pe_str (pa_cons pe_int pa_nil))) (pa_cons (pe_tup (pa_cons pe_str (pa_cons pe_str pa_nil))) pa_nil)))))) (pg_name (i := 12) scLaw.nd rfl (.inl rfl)) (pss_one (ps_if (pt_cmpR op_eq (pe_callH L.take (hr.mono (by decide)) (by rfl) pass0 (pa_cons (pv 2) (pa_cons pe_int pa_nil))) pe_int (nomark _)) (pss_one (ps_dput (hu_of hr) (pv 13) (pv 12) (pe_callH L.loose (hr.mono (by decide)) (by rfl) pass0 (pa_cons (pv 2) (pa_cons (pe_callH L.take (hr.mono (by decide)) (by rfl) pass0 (pa_cons (pv 2) (pa_cons pe_int pa_nil))) (pa_cons (pe_slice sl_list (pe_callH L.pairs (hr.mono (by decide)) (by rfl) pass0 (pa_cons (pv 2) pa_nil)) po_none (po_some pe_int)) pa_nil)))) rfl)) pss_nil))), ?_⟩
  intro D H sc p W ns cc x1 y1 x2 y2 d1 d2 n1 n2 l1 l2 o1 o3 o8 o9 o10 o11 o12 o14 o15 o16 o17 o18 o19 h pl hc q
  have Wp := h.ne
  refine ⟨sz2, fun a1 m1 => ⟨sz2, fun a2 m2 => ⟨sz2, fun a3 m3 => ⟨sz2, fun a4 m4 => ⟨(by show 4 ≤ sizeLine; decide), fun Ls nl => ?_⟩⟩⟩⟩⟩
  have q1 := same_new (o := .tup [V.str "piece", V.str "a"]) m1
  have g1 : upd H a1 (.tup [V.str "piece", V.str "a"]) a1 = some (.tup [V.str "piece", V.str "a"]) := upd_same
  generalize upd H a1 (.tup [V.str "piece", V.str "a"]) = J1 at q1 g1 m2 m3 m4 nl ⊢
  have q2 := same_new (o := .tup [V.str "name", V.str "a"]) m2
  have g2 : upd J1 a2 (.tup [V.str "name", V.str "a"]) a2 = some (.tup [V.str "name", V.str "a"]) := upd_same
  generalize upd J1 a2 (.tup [V.str "name", V.str "a"]) = J2 at q2 g2 m3 m4 nl ⊢
  have q3 := same_new (o := .tup [V.str "in", V.int 2]) m3
  have g3 : upd J2 a3 (.tup [V.str "in", V.int 2]) a3 = some (.tup [V.str "in", V.int 2]) := upd_same
  generalize upd J2 a3 (.tup [V.str "in", V.int 2]) = J3 at q3 g3 m4 nl ⊢
  have q4 := same_new (o := .tup [V.str "piece", V.str "main"]) m4
  have g4 : upd J3 a4 (.tup [V.str "piece", V.str "main"]) a4 = some (.tup [V.str "piece", V.str "main"]) := upd_same
  generalize upd J3 a4 (.tup [V.str "piece", V.str "main"]) = J4 at q4 g4 nl ⊢
  have q5 := same_new (o := .lst [V.ref a1, V.ref a2, V.ref a3, V.ref a4]) nl
  have g5 : upd J4 Ls (.lst [V.ref a1, V.ref a2, V.ref a3, V.ref a4]) Ls = some (.lst [V.ref a1, V.ref a2, V.ref a3, V.ref a4]) := upd_same
  generalize upd J4 Ls (.lst [V.ref a1, V.ref a2, V.ref a3, V.ref a4]) = J5 at q5 g5 ⊢
  have S5 : Same H J5 := (((q1.trans q2).trans q3).trans q4).trans q5
  have pl5 := pool_same S5 pl
  have hW5 := S5 _ _ h.dict
  have k1 := (((q2.trans q3).trans q4).trans q5) _ _ g1
  have k2 := ((q3.trans q4).trans q5) _ _ g2
  have k3 := (q4.trans q5) _ _ g3
  have k4 := q5 _ _ g4
  have M : ∀ {b : Addr} {xs : List V}, J5 b = some (.tup xs) → wo (wo J5 p) W b = some (.tup xs) := fun {b xs} e => wo2_at e (pool_ne' pl5 e (by intro i j k z; cases z)) (fun z => by
    rw [z, hW5] at e
    cases e)
  have lw : Ls ≠ W := fun z => by
    rw [z, hW5] at g5
    cases g5
  have lp : Ls ≠ p := fun z => by
    obtain ⟨_, _, _, e, _⟩ := pl5.ex
    rw [← z, g5] at e
    cases e
  have un : PySem.W.EachIs (UnkAt (wo (wo J5 p) W)) [V.ref a1, V.ref a2, V.ref a3, V.ref a4] wU := .cons ⟨a1, rfl, M k1⟩ (.cons ⟨a2, rfl, M k2⟩ (.cons ⟨a3, rfl, M k3⟩ (.cons ⟨a4, rfl, M k4⟩ .nil)))
  refine ⟨Ls, rfl, ⟨_, SqL.of g5⟩, ?_⟩
  refine for_it walk_list (fun i σ H4 => ∃ (o12 : Option V) (kvs : List (List Key × V)) (gs : List Gw) (c4 : Nat), σ = (sgl sc o1 (some (.ref p)) o3 (some x1) (some y1) (some x2) (some y2) o8 o9 o10 o11 o12 (some (.ref W)) o14 o15 o16 o17 o18 o19) ∧ Wl K T' sc ns x1 y1 x2 y2 d1 d2 n1 n2 l1 l2 p W kvs gs H4 ∧ (kvs.map (·.1)).Sublist (wU.take i) ∧ Pool H4 p c4 ∧ c4 ≤ cc + 40 * i ∧ H4 Ls = some (.lst [V.ref a1, V.ref a2, V.ref a3, V.ref a4]) ∧ PySem.W.EachIs (UnkAt (wo (wo H4 p) W)) [V.ref a1, V.ref a2, V.ref a3, V.ref a4] wU)
    ⟨o12, [], [], cc, rfl, ⟨h.two.same (wo_mono (wo_mono S5)), hW5, .nil, Wp⟩, List.nil_sublist _, pl5, by omega, g5, un⟩ (fun i σ H4 _ ⟨_, _, _, _, _, _, _, _, _, hL, _⟩ => SqL.of hL) ?_ ?_
  · rintro i v σ H4 H4' hi ⟨o12, kvs, gs, c4, rfl, wl, sub, pl4, hc4, hL4, un4⟩ ⟨rfl, hv⟩
    obtain ⟨u, hu, b, rfl, hb⟩ := eachs_get un4 hv
    have i4 : i < 4 := hi
    have hbH : H4' b = some (.tup (u.map kV)) := (wo_sub.trans wo_sub) _ _ hb
    refine ⟨_, rfl, p, c4, 2, rfl, pl4, by omega, by decide, by decide, fun r o r0 r2 pla => ?_⟩
    have ka : Dr p H4' (upd H4' p o) := fun b x hb e => by rw [upd_ne hb]; exact e
    generalize upd H4' p o = Ha at ka pla ⊢
    refine ⟨rfl, _, rfl, ?_⟩
    have carry : ∀ {Hx : Hp}, Dr p H4' Hx → Wl K T' sc ns x1 y1 x2 y2 d1 d2 n1 n2 l1 l2 p W kvs gs Hx ∧ Hx Ls = some (.lst [V.ref a1, V.ref a2, V.ref a3, V.ref a4]) ∧ PySem.W.EachIs (UnkAt (wo (wo Hx p) W)) [V.ref a1, V.ref a2, V.ref a3, V.ref a4] wU := fun {Hx} k => by
      have e := wo_mono (p := W) (wo_dr k)
      exact ⟨⟨wl.two.same e, k _ _ Wp wl.dict, eachs_imp (fun _ _ => wv_same e) wl.each, Wp⟩, k _ _ lp hL4, each_same e un4⟩
    refine ite2 (fun _ => ?_) (fun _ => ?_)
    · refine ⟨_, rfl, _, rfl, p, c4 + 1, 4, rfl, pla, by omega, by decide, by decide, fun r' o' r0' r4' plb => ?_⟩
      have kb : Dr p Ha (upd Ha p o') := fun b x hb e => by rw [upd_ne hb]; exact e
      generalize upd Ha p o' = Hb at kb plb ⊢
      refine ⟨_, rfl, p, c4 + 1 + 1, rfl, plb, by omega, fun l xs ps H1 c1 dr1 pl1 hc1 nl' hl hxs uk few mu => ⟨2, rfl, l, xs, rfl, SqL.of hl, fun pa hpa => ?_⟩⟩
      rw [take_two]
      have sp := same_new (o := .lst (xs.take 2)) hpa
      have gp : upd H1 pa (.lst (xs.take 2)) pa = some (.lst (xs.take 2)) := upd_same
      generalize upd H1 pa (.lst (xs.take 2)) = H2 at sp gp ⊢
      have uk2 : ∀ u ∈ (ps.take 2).map (·.1), Uk u := fun u hu => by
        obtain ⟨z, hz, rfl⟩ := List.mem_map.mp hu
        exact uk _ (List.mem_map.mpr ⟨z, List.mem_of_mem_take hz, rfl⟩)
      have l2' : (ps.take 2).length ≤ 5 := by
        rw [List.length_take]
        omega
      refine ⟨p, c1, r', pa, xs.take 2, ps.take 2, rfl, pool_same sp pl1, by omega, gp, each_take 2 (eachs_imp (fun _ _ => partT_s (TupS.of sp)) hxs), uk2, l2', fun t x y d H3 c3 dr3 pl3 hc3 ht hx sh hy => ?_⟩
      have k03 : Dr p H4' H3 := fun b x hb e => dr3 b x hb (sp _ _ (dr1 b x hb (kb b x hb (ka b x hb e))))
      obtain ⟨wl3, hL3, un3⟩ := carry k03
      have hW3 := wl3.dict
      have bp : b ≠ p := pool_ne' pl4 hbH (by intro i j k z; cases z)
      have hb3 := k03 _ _ bp hbH
      have hWp : wo H3 p W = some (.dT kvs) := by
        rw [wo_ne Wp]
        exact hW3
      have nu : u ∉ kvs.map (·.1) := fun z => take_not (show wU.Nodup by decide +kernel) hu (sub.subset z)
      have lk : kvs.length ≤ i := by
        have e1 := sub.length_le
        rw [List.length_map, List.length_take] at e1
        omega
      refine ⟨_, rfl, _, rfl, W, _, rfl, DPut.t hW3 hb3 (small1000 (by omega)), ?_⟩
      rw [putK_new _ nu]
      have wv : WV K (wo (wo H3 p) W) (u, V.ref t) (u, d, r', ps.take 2) := ⟨t, x, y, rfl, rfl, wo2_at ht (pool_ne' pl3 ht (by
        intro i j k z
        cases z)) (fun z => by
        rw [z, hW3] at ht
        cases ht), dp_but (but_wo hWp) hx, ⟨sh, uk2, l2', fun z hz => mu z (List.mem_of_mem_take hz), Nat.lt_of_lt_of_le (show r'.natAbs < 4 by omega) (by decide)⟩, sumT_s (tups_dict hWp) hy⟩
      refine ⟨some (.ref b), kvs ++ [(u, .ref t)], gs ++ [(u, d, r', ps.take 2)], c3, rfl, ⟨?_, upd_same, ?_, Wp⟩, ?_, pool_put pl3 Wp.symm, by omega, ?_, ?_⟩
      · rw [wo2_upd]
        exact wl3.two
      · rw [wo2_upd]
        exact eachs_snoc wv wl3.each
      · rw [List.map_append, List.take_add_one, hu]
        exact sub.append (List.Sublist.refl _)
      · rw [upd_ne lw]
        exact hL3
      · rw [wo2_upd]
        exact un3
    · obtain ⟨w5, hL5, un5⟩ := carry ka
      exact ⟨_, kvs, gs, c4 + 1, rfl, w5, sub.trans (List.take_sublist_take_left (by omega)), pla, by omega, hL5, un5⟩
  · rintro σ H4 ⟨o12, kvs, gs, c4, rfl, wl, sub, pl4, hc4, hL4, un4⟩
    have e : wU.take [V.ref a1, V.ref a2, V.ref a3, V.ref a4].length = wU := rfl
    rw [e] at sub
    have l4 : [V.ref a1, V.ref a2, V.ref a3, V.ref a4].length = 4 := rfl
    exact q H4 o12 kvs gs c4 wl sub pl4 (by omega)
end
end DR

namespace DR
open PySem PySem.Spec PyProof.Rows L2
/-! ### the worths, handed in and the law's own -/
theorem valV_at {kvs : List (List Key × V)} (nd : (kvs.map (·.1)).Nodup) {i : Nat} {k : List Key} {v : V} (h : kvs[i]? = some (k, v)) : valV kvs k = some v := by
  unfold valV
  induction kvs generalizing i with
  | nil => simp at h
  | cons kv kvs ih =>
    have nd' := List.nodup_cons.mp (show (kv.1 :: kvs.map (·.1)).Nodup from nd)
    cases i with
    | zero =>
      obtain rfl : kv = (k, v) := by simpa using h
      rw [List.find?_cons_of_pos (by simp)]
      rfl
    | succ i =>
      have h' : kvs[i]? = some (k, v) := by simpa using h
      have hk : k ∈ kvs.map (·.1) := List.mem_map.mpr ⟨_, List.mem_of_getElem? h', rfl⟩
      rw [List.find?_cons_of_neg (by
        intro z
        exact nd'.1 (of_decide_eq_true z ▸ hk))]
      exact ih nd'.2 h'
/-- a pair that was made of a worth: what is handed in (j = 0), the law's own (j = 1) -/
def PW (K : PySem.W.Frag) (M H : Hp) (j : Nat) (p : Addr) (g : Gw) : Prop := ∃ b x y, H p = some (.tup [.ref b, if j = 0 then x else y]) ∧ H b = some (.tup (g.1.map kV)) ∧ Dp K M x g.2.1 ∧ Drw g.2.1 g.2.2.1 g.2.2.2 ∧ SumT M y g.2.2.1 (psOf g.2.2.2)
theorem pw_t {K : PySem.W.Frag} {M H H' : Hp} {j : Nat} (e : TupS H H') {p : Addr} {g : Gw} (h : PW K M H j p g) : PW K M H' j p g := by
  obtain ⟨b, x, y, h1, h2, h3, h4, h5⟩ := h
  exact ⟨b, x, y, e _ _ h1, e _ _ h2, h3, h4, h5⟩
theorem comp_go {K : PySem.W.Frag} {H : Hp} {p W : Addr} {kvs : List (List Key × V)} {gs : List Gw} {od : Obj} {D : Addr} (j : Nat) (hW : H W = some (.dT kvs)) (each : PySem.W.EachIs (WV K (wo (wo H p) W)) kvs gs) (nd : (kvs.map (·.1)).Nodup) (few : kvs.length ≤ 4) (hD : upd H W (.frz od (.dT kvs)) D = none) {σ : L2.St} {vs : List Nat} {te : TE} {Qd : Hp → Prop}
    (hte : ∀ (i : Nat) (k : List Key) (v : V) (t : Addr) (x y : V) (qa : Addr) (H1 : Hp), kvs[i]? = some (k, v) → H1 W = some (.frz od (.dT kvs)) → H1 qa = some (.tup (k.map kV)) → v = .ref t → H1 t = some (.tup [x, y]) → ∀ Q : VK, (∀ r, H1 r = none → Q (.ref r) (upd H1 r (.tup [.ref qa, if j = 0 then x else y]))) → te ((wipe σ vs).set 12 (some (.ref qa))) H1 Q)
    (hwp : ∀ v : V, wipe ((wipe σ vs).set 12 (some v)) vs = wipe σ vs)
    (q : ∀ H1 ps, (∀ b o, b ≠ D → upd H W (.frz od (.dT kvs)) b = some o → H1 b = some o) → H1 D = some (.lst (ps.map V.ref)) → PySem.W.EachIs (PW K (wo (wo H p) W) H1 j) ps gs → Qd H1) :
    ∃ Wk : Nat → Nat → Hp → Prop, (∃ m, Wk 0 m (upd (upd H W (.frz od (.dT kvs))) D (.lst []))) ∧ ∀ i m H, Wk i m H →
      ((Itkt W od kvs).stop i H ∧ Qd H) ∨ ((Itkt W od kvs).go i H ∧ ∃ Nx : Hp → Prop, (∀ H', Nx H' → ∃ m', m' < m ∧ Wk (i + 1) m' H') ∧ ∀ x H', (Itkt W od kvs).yld i H x H' → gName 12 x (wipe σ vs) H' fun σ2 H2 => wipe σ2 vs = wipe σ vs ∧ tYes σ2 H2 fun b H3 =>
        if b = true then te σ2 H3 fun y H4 => ∃ acc, H4 D = some (.lst acc) ∧ acc.length < sizeLine ∧ Nx (upd H4 D (.lst (acc ++ [y]))) else Nx H3) := by
  have hDW : D ≠ W := by
    intro z
    rw [z, upd_same] at hD
    cases hD
  have kvl : kvs.length = gs.length := each.length
  refine lc_it walk_keysT (fun i H1 => (∀ b o, b ≠ D → upd H W (.frz od (.dT kvs)) b = some o → H1 b = some o) ∧ ∃ ps, H1 D = some (.lst (ps.map V.ref)) ∧ ps.length = i ∧ PySem.W.EachIs (PW K (wo (wo H p) W) H1 j) ps (gs.take i))
    ⟨fun b o hb e => by rw [upd_ne hb]; exact e, [], upd_same, rfl, .nil⟩ (fun i H1 _ ⟨kp, _⟩ => kp _ _ hDW.symm upd_same) ?_ ?_
  · rintro i x H1 H1' hi ⟨kp, ps, hD1, hlen, he⟩ ⟨rfl, k, v, qa, hk, rfl, hq⟩
    obtain ⟨g, hg, t, x, y, e1, e2, e3, e4, e5, e6⟩ := eachs_get each hk
    have hd1 : H1' W = some (.frz od (.dT kvs)) := kp _ _ hDW.symm upd_same
    have tW : t ≠ W := fun z => by
      rw [z] at e3
      unfold wo at e3
      rw [if_pos rfl] at e3
      cases e3
    have tH : H t = some (.tup [x, y]) := (wo_sub.trans wo_sub) _ _ e3
    have t1 : H1' t = some (.tup [x, y]) := kp _ _ (ne_of_none (show upd H W (.frz od (.dT kvs)) t = some (.tup [x, y]) by rw [upd_ne tW]; exact tH) hD) (by rw [upd_ne tW]; exact tH)
    refine ⟨hwp _, yes_go (iteT (hte i k v t x y qa H1' hk hd1 hq e2 t1 _ fun r nr => ?_))⟩
    have sr := same_new (o := .tup [V.ref qa, if j = 0 then x else y]) nr
    have hD2 := sr _ _ hD1
    refine ⟨ps.map V.ref, hD2, small1000 (by rw [List.length_map]; omega), fun b o hb e => ?_, ps ++ [r], ?_, by simp [hlen], ?_⟩
    · rw [upd_ne hb]
      exact sr _ _ (kp b o hb e)
    · rw [upd_same, List.map_append]
      rfl
    · have ts := TupS.put (o' := .lst (ps.map V.ref ++ [V.ref r])) hD2 (by intro xs z; cases z)
      rw [List.take_add_one, hg]
      refine eachs_snoc (R := PW K (wo (wo H p) W) _ j) ⟨qa, x, y, ts _ _ upd_same, ?_, e4, e5, e6⟩ (eachs_imp (fun _ _ => pw_t ((TupS.of sr).trans ts)) he)
      have e1' : k = g.1 := e1
      rw [← e1']
      exact ts _ _ (sr _ _ hq)
  · rintro H1 ⟨kp, ps, hD1, hlen, he⟩
    rw [kvl, List.take_length] at he
    exact q H1 ps kp hD1 he
/-- unlocked again -/
theorem unlock {H H1 : Hp} {W D : Addr} {od : Obj} {kvs : List (List Key × V)} (hW : H W = some (.dT kvs)) (hD : upd H W (.frz od (.dT kvs)) D = none) (kp : ∀ b o, b ≠ D → upd H W (.frz od (.dT kvs)) b = some o → H1 b = some o) : H1 W = some (.frz od (.dT kvs)) ∧ Same H (upd H1 W (.dT kvs)) := by
  have hDW : D ≠ W := by
    intro z
    rw [z, upd_same] at hD
    cases hD
  have hDn : H D = none := by
    rw [upd_ne hDW] at hD
    exact hD
  refine ⟨kp _ _ hDW.symm upd_same, fun b o e => ?_⟩
  by_cases hb : b = W
  · rw [hb] at e ⊢
    rw [upd_same]
    exact hW.symm.trans e
  · rw [upd_ne hb]
    refine kp b o (ne_of_none e hDn) ?_
    rw [upd_ne hb]
    exact e
/-! an unknown as a key -/
def nkK : Key → NestedKey
  | .inl i => .num i
  | .inr s => .text s
def nkU (u : List Key) : NestedKey := .tup (u.map nkK)
theorem nkOf_U {u : List Key} (h : NmU u) : nkOf (unkD u) = some (nkU u) ∧ (nkU u).depth ≤ 8 := by
  obtain ⟨k, o, rfl, _⟩ := h
  cases o <;> simp [unkD, keyDat, nkOf, nkAll, nkU, nkK, NestedKey.depth, NestedKey.depthAll]
theorem nkK_inj {a b : Key} (h : nkK a = nkK b) : a = b := by
  cases a <;> cases b <;> simp [nkK] at h <;> rw [h]
theorem nkU_inj {u v : List Key} (h : nkU u = nkU v) : u = v := by
  have h : u.map nkK = v.map nkK := NestedKey.tup.inj h
  exact (List.map_inj_right fun a b => nkK_inj).mp h
def dsOf (g : Gw) : PyData × PyData := (unkD g.1, g.2.1)
def goOf (g : Gw) : Go := (g.1, g.2.2.1, psOf g.2.2.2)
theorem wr_same {K : PySem.W.Frag} {H H' : Hp} (e : Same H H') {kv : NestedKey × V × V} {d : PyData × PyData} (h : WR K H kv d) : WR K H' kv d := ⟨dp_same e h.1, h.2.1, h.2.2.1, h.2.2.2.1, th_same e h.2.2.2.2.1, h.2.2.2.2.2⟩
theorem mk_kvs {K : PySem.W.Frag} {M H : Hp} (e : Same M H) : ∀ {ps : List Addr} {gs : List Gw}, PySem.W.EachIs (PW K M H 0) ps gs → (∀ g ∈ gs, Uk g.1) →
    ∃ kvs : Kvs, Paired (PairV K H) ps kvs ∧ kvs.map (·.1) = (gs.map (·.1)).map nkU ∧ PySem.W.EachIs (WR K H) kvs (gs.map dsOf) ∧ ∀ kv ∈ kvs, ∃ b, kv.2.1 = .ref b
  | _, _, .nil, _ => ⟨[], .nil, rfl, .nil, fun kv hkv => by cases hkv⟩
  | _, _, .cons (b := g) h t, uk => by
    obtain ⟨kvs, k1, k2, k3, k4⟩ := mk_kvs e t fun g' hg => uk g' (List.mem_cons_of_mem _ hg)
    obtain ⟨b, x, y, h1, h2, h3, h4, h5⟩ := h
    have u := uk g (List.mem_cons_self ..)
    obtain ⟨nk, nd⟩ := nkOf_U u.nm
    have du : Dp K H (.ref b) (unkD g.1) := dp_unk ⟨b, rfl, h2⟩
    have dx := dp_same e h3
    refine ⟨(nkU g.1, .ref b, x) :: kvs, .cons ⟨SqT.of h1, unkD g.1, du, nk, nd⟩ k1, by rw [List.map_cons, List.map_cons, List.map_cons, k2], .cons ⟨du, nk, nd, u.sh, .dat dx, h4.oks⟩ k3, fun kv hkv => ?_⟩
    rcases List.mem_cons.mp hkv with rfl | hkv
    · exact ⟨b, rfl⟩
    · exact k4 kv hkv
theorem mk_own {K : PySem.W.Frag} {M H : Hp} (e : Same M H) : ∀ {ps : List Addr} {gs : List Gw}, PySem.W.EachIs (PW K M H 1) ps gs →
    ∃ vs : List V, Paired (PairD K H) ps (fkOf (gs.map goOf) vs) ∧ PySem.W.EachIs (SumG H) vs (gs.map goOf)
  | _, _, .nil => ⟨[], .nil, .nil⟩
  | _, _, .cons (b := g) h t => by
    obtain ⟨vs, k1, k2⟩ := mk_own e t
    obtain ⟨b, x, y, h1, h2, h3, h4, h5⟩ := h
    refine ⟨y :: vs, ?_, .cons (sumT_s (TupS.of e) h5) k2⟩
    show Paired (PairD K H) _ ((g.1, y) :: _)
    exact .cons ⟨b, SqT.of h1, h2⟩ k1
section
variable {P : Program} {w : World} {K : PySem.W.Frag} {mg : Str → Option Value} {base : Heap} {CS CN CW f : Addr} {c : Value} {T' : List (Addr × Str)} {A : Around} {outer : List Env} {s : Shared} {H0 : Hp} {E : XK}
theorem s10 (L : TL P w K mg base CS CN CW T') (hr : Room 18 (XL P w K mg base f c A outer s H0 E).A) : ∃ t, PS (XL P w K mg base f c A outer s H0 E) (fb 10) t ∧ ∀ (D : Ends) (H : Hp) (sc p W : Addr) (ns : List Int) (cc : Nat) (x1 y1 x2 y2 : V) (d1 d2 : PyData) (n1 n2 : Int) (l1 l2 : Mul) (kvs : List (List Key × V)) (gs : List Gw) (o1 o3 o8 o9 o10 o11 o12 o14 o15 o16 o17 o18 o19 : Option V), Wl K T' sc ns x1 y1 x2 y2 d1 d2 n1 n2 l1 l2 p W kvs gs H → (kvs.map (·.1)).Sublist wU → (∀ g ∈ gs, Uk g.1) →
      (∀ H' N (kvz : Kvs), Same H H' → H' N = some (MapO P w N kvz) → kvz.map (·.1) = (gs.map (·.1)).map nkU → PySem.W.EachIs (WR K H') kvz (gs.map dsOf) → (∀ kv ∈ kvz, ∃ b, kv.2.1 = .ref b) → D.nx (sgl sc o1 (some (.ref p)) o3 (some x1) (some y1) (some x2) (some y2) o8 o9 o10 o11 o12 (some (.ref W)) (some (.ref N)) o15 o16 o17 o18 o19) H') → t D (sgl sc o1 (some (.ref p)) o3 (some x1) (some y1) (some x2) (some y2) o8 o9 o10 o11 o12 (some (.ref W)) o14 o15 o16 o17 o18 o19) H := by
  refine ⟨_, ps_set (i := 14) scLaw.nd rfl (.inl rfl) (pe_callTy (call_dictV hr rfl) (by rfl) L.r.bi.dict (by decide +kernel) (pa_cons (pe_lock (pe_lc (own := [("unknown", 12)]) (g := gName 12) (tt := tYes) (te := tTup (tCons (tVar 12) (tCons (tOp (rIxT K) (tDGet (tVar 13) (tVar 12)) (tC (.int 0))) tNil))) rfl scLaw.nd (pi_keys (pv 13)) (blkOk_by (N := NL) (sc := defScope sLaw) (by decide +kernel)) (fun _ _ _ _ _ => pg_name (i := 12) scLaw.nd rfl (.inl rfl)) (fun _ _ _ _ _ => pts_nil) (fun _ _ _ _ _ => (pe_tup (pa_cons (pv 12) (pa_cons (pe_ix ix_tup (pe_dget (hu_of hr) (pv 13) (pv 12) (fun _ _ => rfl)) pe_int (fun _ _ => rfl)) pa_nil)))))) pa_nil)), ?_⟩
  intro D H sc p W ns cc x1 y1 x2 y2 d1 d2 n1 n2 l1 l2 kvs gs o1 o3 o8 o9 o10 o11 o12 o14 o15 o16 o17 o18 o19 h sub uk q
  have nd : (kvs.map (·.1)).Nodup := sub.nodup (by decide +kernel)
  have few : kvs.length ≤ 4 := by
    have := sub.length_le
    rw [List.length_map] at this
    exact this
  have eg : kvs.map (·.1) = gs.map (·.1) := by
    have : ∀ {ks : List (List Key × V)} {hs : List Gw}, PySem.W.EachIs (WV K (wo (wo H p) W)) ks hs → ks.map (·.1) = hs.map (·.1) := fun hh => by
      rename_i ks hs
      induction ks generalizing hs with
      | nil =>
        cases hh
        rfl
      | cons a ks ih =>
        cases hh with
        | cons a1 t1 =>
          obtain ⟨_, _, _, e1, _⟩ := a1
          rw [List.map_cons, List.map_cons, ih t1, e1]
    exact this h.each
  refine ⟨W, _, h.dict, trivial, fun od => ⟨_, rfl, W, od, rfl, .inr ⟨_, upd_same, fun D0 hD => ?_⟩⟩⟩
  refine comp_go (p := p) 0 h.dict h.each nd few hD (fun i k v t x y qa H1 hk hW1 hq ev ht Q qq => ?_) (fun _ => rfl) fun H1 ps kp hD1 he => ?_
  · subst ev
    exact ⟨_, rfl, _, rfl, _, rfl, W, .ref t, rfl, .inr ⟨kvs, k, qa, .inr ⟨od, hW1⟩, rfl, hq, (valV_at nd hk).symm⟩, t, _, _, _, rfl, rfl, SqT.of ht, at_of (i := 0) rfl, sz2, fun r nr => qq r nr⟩
  · obtain ⟨hW1, sm⟩ := unlock h.dict hD kp
    have hDW : D0 ≠ W := fun z => by
      rw [z, upd_same] at hD
      cases hD
    have ts : TupS H1 (upd H1 W (.dT kvs)) := TupS.put hW1 (by intro xs z; cases z)
    have he2 := eachs_imp (fun _ _ => pw_t ts) he
    have hD2 : upd H1 W (.dT kvs) D0 = some (.lst (ps.map V.ref)) := by
      rw [upd_ne hDW]
      exact hD1
    refine ⟨hW1, ?_⟩
    generalize upd H1 W (.dT kvs) = H2 at sm he2 hD2 ⊢
    obtain ⟨kvz, z1, z2, z3, z4⟩ := mk_kvs ((wo_sub.trans wo_sub).trans sm) he2 uk
    have lp := he2.length
    have lg : gs.length ≤ 4 := by
      rw [← h.each.length]
      exact few
    refine ⟨D0, ps, kvz, rfl, SqL.of hD2, z1, ?_, fun kv hkv => z4 kv (List.mem_of_getElem? hkv), by omega, fun N hN => ?_⟩
    · rw [z2]
      exact List.Pairwise.map nkU (R := fun a b => a ≠ b) (fun a b hab z => hab (nkU_inj z)) (by rw [← eg]; exact nd)
    · have sn := same_new (o := MapO P w N kvz) hN
      exact q _ N kvz (sm.trans sn) upd_same z2 (eachs_imp (fun _ _ => wr_same sn) z3) z4
theorem s11 (L : TL P w K mg base CS CN CW T') (hr : Room 18 (XL P w K mg base f c A outer s H0 E).A) : ∃ t, PS (XL P w K mg base f c A outer s H0 E) (fb 11) t ∧ ∀ (D : Ends) (H : Hp) (sc p W : Addr) (ns : List Int) (cc : Nat) (x1 y1 x2 y2 : V) (d1 d2 : PyData) (n1 n2 : Int) (l1 l2 : Mul) (kvs : List (List Key × V)) (gs : List Gw) (o1 o3 o8 o9 o10 o11 o12 o14 o15 o16 o17 o18 o19 : Option V), Wl K T' sc ns x1 y1 x2 y2 d1 d2 n1 n2 l1 l2 p W kvs gs H → (kvs.map (·.1)).Sublist wU →
      (∀ H' N vs, Same H H' → H' N = some (.dT (fkOf (gs.map goOf) vs)) → PySem.W.EachIs (SumG H') vs (gs.map goOf) → (gs.map (·.1)).Sublist wU → D.nx (sgl sc o1 (some (.ref p)) o3 (some x1) (some y1) (some x2) (some y2) o8 o9 o10 o11 o12 (some (.ref W)) o14 (some (.ref N)) o16 o17 o18 o19) H') → t D (sgl sc o1 (some (.ref p)) o3 (some x1) (some y1) (some x2) (some y2) o8 o9 o10 o11 o12 (some (.ref W)) o14 o15 o16 o17 o18 o19) H := by
  refine ⟨_, ps_set (i := 15) scLaw.nd rfl (.inl rfl) (pe_callTy (call_dictT hr rfl) (by rfl) L.r.bi.dict (by decide +kernel) (pa_cons (pe_lock (pe_lc (own := [("unknown", 12)]) (g := gName 12) (tt := tYes) (te := tTup (tCons (tVar 12) (tCons (tOp (rIxT K) (tDGet (tVar 13) (tVar 12)) (tC (.int 1))) tNil))) rfl scLaw.nd (pi_keys (pv 13)) (blkOk_by (N := NL) (sc := defScope sLaw) (by decide +kernel)) (fun _ _ _ _ _ => pg_name (i := 12) scLaw.nd rfl (.inl rfl)) (fun _ _ _ _ _ => pts_nil) (fun _ _ _ _ _ => (pe_tup (pa_cons (pv 12) (pa_cons (pe_ix ix_tup (pe_dget (hu_of hr) (pv 13) (pv 12) (fun _ _ => rfl)) pe_int (fun _ _ => rfl)) pa_nil)))))) pa_nil)), ?_⟩
  intro D H sc p W ns cc x1 y1 x2 y2 d1 d2 n1 n2 l1 l2 kvs gs o1 o3 o8 o9 o10 o11 o12 o14 o15 o16 o17 o18 o19 h sub q
  have nd : (kvs.map (·.1)).Nodup := sub.nodup (by decide +kernel)
  have few : kvs.length ≤ 4 := by
    have := sub.length_le
    rw [List.length_map] at this
    exact this
  have eg : kvs.map (·.1) = gs.map (·.1) := by
    have : ∀ {ks : List (List Key × V)} {hs : List Gw}, PySem.W.EachIs (WV K (wo (wo H p) W)) ks hs → ks.map (·.1) = hs.map (·.1) := fun hh => by
      rename_i ks hs
      induction ks generalizing hs with
      | nil =>
        cases hh
        rfl
      | cons a ks ih =>
        cases hh with
        | cons a1 t1 =>
          obtain ⟨_, _, _, e1, _⟩ := a1
          rw [List.map_cons, List.map_cons, ih t1, e1]
    exact this h.each
  refine ⟨W, _, h.dict, trivial, fun od => ⟨_, rfl, W, od, rfl, .inr ⟨_, upd_same, fun D0 hD => ?_⟩⟩⟩
  refine comp_go (p := p) 1 h.dict h.each nd few hD (fun i k v t x y qa H1 hk hW1 hq ev ht Q qq => ?_) (fun _ => rfl) fun H1 ps kp hD1 he => ?_
  · subst ev
    exact ⟨_, rfl, _, rfl, _, rfl, W, .ref t, rfl, .inr ⟨kvs, k, qa, .inr ⟨od, hW1⟩, rfl, hq, (valV_at nd hk).symm⟩, t, _, _, _, rfl, rfl, SqT.of ht, at_of (i := 1) rfl, sz2, fun r nr => qq r nr⟩
  · obtain ⟨hW1, sm⟩ := unlock h.dict hD kp
    have hDW : D0 ≠ W := fun z => by
      rw [z, upd_same] at hD
      cases hD
    have ts : TupS H1 (upd H1 W (.dT kvs)) := TupS.put hW1 (by intro xs z; cases z)
    have he2 := eachs_imp (fun _ _ => pw_t ts) he
    have hD2 : upd H1 W (.dT kvs) D0 = some (.lst (ps.map V.ref)) := by
      rw [upd_ne hDW]
      exact hD1
    refine ⟨hW1, ?_⟩
    generalize upd H1 W (.dT kvs) = H2 at sm he2 hD2 ⊢
    obtain ⟨vs, z1, z2⟩ := mk_own ((wo_sub.trans wo_sub).trans sm) he2
    have lv := z2.length
    have ek : (fkOf (gs.map goOf) vs).map (·.1) = gs.map (·.1) := by
      rw [fk_keys lv, List.map_map]
      rfl
    refine ⟨D0, ps, _, rfl, SqL.of hD2, z1, ?_, fun N hN => ?_⟩
    · rw [ek, ← eg]
      exact nd
    · have sn := same_new (o := .dT (fkOf (gs.map goOf) vs)) hN
      refine q _ N vs (sm.trans sn) upd_same (eachs_imp (fun _ _ => sumT_s (TupS.of sn)) z2) ?_
      rw [← eg]
      exact sub
end
end DR

namespace DR
open PySem PySem.Spec PyProof.Rows L2
/-! ### the worths as the program and the law see them -/
def gFun (gs : List Gw) : Wo := fun u => (gs.find? fun g => decide (g.1 = u)).map fun g => (g.2.2.1, psOf g.2.2.2)
def GsOk (gs : List Gw) : Prop := ∀ g ∈ gs, Uk g.1 ∧ Drw g.2.1 g.2.2.1 g.2.2.2
theorem wU_uk : ∀ u ∈ wU, Uk u := by
  intro u hu
  simp only [wU, List.mem_cons, List.not_mem_nil, or_false] at hu
  rcases hu with rfl | rfl | rfl | rfl
  · exact ⟨nm_piece "a", by decide +kernel, sh_str (by decide +kernel) (by decide +kernel), List.mem_of_getElem? (i := 1) rfl⟩
  · exact ⟨nm_name "a", by decide +kernel, sh_str (by decide +kernel) (by decide +kernel), List.mem_of_getElem? (i := 3) rfl⟩
  · exact ⟨nm_in 2, by decide +kernel, sh_int (by decide +kernel), List.mem_of_getElem? (i := 5) rfl⟩
  · exact ⟨nm_piece "main", by decide +kernel, sh_str (by decide +kernel) (by decide +kernel), List.mem_of_getElem? (i := 2) rfl⟩
theorem gs_ok {K : PySem.W.Frag} {M : Hp} {kvs : List (List Key × V)} {gs : List Gw} (h : PySem.W.EachIs (WV K M) kvs gs) (sub : (kvs.map (·.1)).Sublist wU) : GsOk gs := by
  have key : ∀ {ks : List (List Key × V)} {hs : List Gw}, PySem.W.EachIs (WV K M) ks hs → (∀ k ∈ ks.map (·.1), k ∈ wU) → GsOk hs := fun hh hk => by
    rename_i ks hs
    induction hh with
    | nil => exact fun g hg => by cases hg
    | cons a t ih =>
      obtain ⟨_, _, _, e1, _, _, _, e5, _⟩ := a
      intro g hg
      rcases List.mem_cons.mp hg with rfl | hg
      · exact ⟨wU_uk _ (e1 ▸ hk _ (List.mem_cons_self ..)), e5⟩
      · exact ih (fun k hk' => hk k (List.mem_cons_of_mem _ hk')) g hg
  exact key h fun k hk => sub.subset hk
theorem goods {gs : List Gw} (ok : GsOk gs) : ∀ {gos : List Go}, PySem.W.EachIs GoodW (gs.map dsOf) gos → gos = gs.map goOf := by
  induction gs with
  | nil =>
    intro gos h
    cases h
    rfl
  | cons g gs ih =>
    intro gos h
    cases h with
    | cons h1 t =>
      obtain ⟨u, dr⟩ := ok g (List.mem_cons_self ..)
      rename_i go gos'
      obtain ⟨e1, e2⟩ := h1
      have e1 : readUnk (unkD g.1) = some go.1 := e1
      have e2 : readSum g.2.1 = some go.2 := e2
      rw [u.rd] at e1
      rw [dr.rd] at e2
      rw [List.map_cons, ih (fun g' hg => ok g' (List.mem_cons_of_mem _ hg)) t]
      have z : go = goOf g := Prod.ext (Option.some.inj e1).symm (Option.some.inj e2).symm
      rw [z]
theorem worths_go {H : Hp} : ∀ {gs : List Gw} {vs : List V}, PySem.W.EachIs (SumG H) vs (gs.map goOf) → WorthsV H (fkOf (gs.map goOf) vs) (gFun gs)
  | [], vs, h => by
    cases h
    intro u
    show (none : Option (Int × Mul)) = none
    rfl
  | g :: gs, vs, h => by
    have h : PySem.W.EachIs (SumG H) vs (goOf g :: gs.map goOf) := h
    cases h with
    | cons h1 t =>
      rename_i v vs'
      have ih := worths_go t
      intro u
      have e1 : valV (fkOf ((g :: gs).map goOf) (v :: vs')) u = if g.1 = u then some v else valV (fkOf (gs.map goOf) vs') u := by
        show (((g.1, v) :: fkOf (gs.map goOf) vs').find? fun kv => decide (kv.1 = u)).map (·.2) = _
        by_cases c : g.1 = u
        · rw [List.find?_cons_of_pos (by simp [c]), if_pos c]
          rfl
        · rw [List.find?_cons_of_neg (by simp [c]), if_neg c]
          rfl
      have e2 : gFun (g :: gs) u = if g.1 = u then some (g.2.2.1, psOf g.2.2.2) else gFun gs u := by
        unfold gFun
        by_cases c : g.1 = u
        · rw [List.find?_cons_of_pos (by simp [c]), if_pos c]
          rfl
        · rw [List.find?_cons_of_neg (by simp [c]), if_neg c]
      rw [e1, e2]
      by_cases c : g.1 = u
      · rw [if_pos c, if_pos c]
        exact ⟨_, _, rfl, h1⟩
      · rw [if_neg c, if_neg c]
        exact ih u
theorem gFun_mem {gs : List Gw} {u : List Key} {r : Int × Mul} (h : gFun gs u = some r) : ∃ g ∈ gs, r = (g.2.2.1, psOf g.2.2.2) := by
  unfold gFun at h
  obtain ⟨g, h1, h2⟩ := Option.map_eq_some_iff.mp h
  exact ⟨g, List.mem_of_find?_eq_some h1, h2.symm⟩
theorem puts_go {gs : List Gw} (ok : GsOk gs) {n : Int} {ps : Mul} (h : SumOk n ps) : Puts (gFun gs) ps := by
  have few := h.few
  refine ⟨by omega, h.nm, h.sz, fun u r e => ?_⟩
  obtain ⟨g, hg, rfl⟩ := gFun_mem e
  have o := (ok g hg).2.ok
  have f := o.few
  exact ⟨by show (psOf g.2.2.2).length ≤ 25; omega, o.nm, o.nz, o.sz⟩
section
variable {P : Program} {w : World} {K : PySem.W.Frag} {mg : Str → Option Value} {base : Heap} {CS CN CW f : Addr} {c : Value} {T' : List (Addr × Str)} {A : Around} {outer : List Env} {s : Shared} {H0 : Hp} {E : XK}
theorem s12 (L : TL P w K mg base CS CN CW T') (hr : Room 18 (XL P w K mg base f c A outer s H0 E).A) (hg : (XL P w K mg base f c A outer s H0 E).A.guards = some []) : ∃ t, PS (XL P w K mg base f c A outer s H0 E) (fb 12) t ∧ ∀ (D : Ends) (H : Hp) (sc p W N O : Addr) (ns : List Int) (x1 y1 x2 y2 : V) (d1 d2 : PyData) (n1 n2 : Int) (l1 l2 : Mul) (kvs : List (List Key × V)) (gs : List Gw) (kvz : Kvs) (vs : List V) (o1 o3 o9 o10 o11 o12 o16 o17 o18 o19 : Option V), Wl K T' sc ns x1 y1 x2 y2 d1 d2 n1 n2 l1 l2 p W kvs gs H → (kvs.map (·.1)).Sublist wU → Drw d1 n1 l1 → Drw d2 n2 l2 →
      H N = some (MapO P w N kvz) → kvz.map (·.1) = (gs.map (·.1)).map nkU → PySem.W.EachIs (WR K H) kvz (gs.map dsOf) → (∀ kv ∈ kvz, ∃ b, kv.2.1 = .ref b) →
      H O = some (.dT (fkOf (gs.map goOf) vs)) → PySem.W.EachIs (SumG H) vs (gs.map goOf) → (gs.map (·.1)).Sublist wU →
      (∀ H', Same H H' → D.nx (sgl sc o1 (some (.ref p)) o3 (some x1) (some y1) (some x2) (some y2) (some (.str (PyData.list [d1, d2]).shown)) o9 o10 o11 o12 (some (.ref W)) (some (.ref N)) (some (.ref O)) o16 o17 o18 o19) H') → t D (sgl sc o1 (some (.ref p)) o3 (some x1) (some y1) (some x2) (some y2) (some (.str (PyData.list [d1, d2]).shown)) o9 o10 o11 o12 (some (.ref W)) (some (.ref N)) (some (.ref O)) o16 o17 o18 o19) H := by
  have hu := hr.un
  refine ⟨_, (ps_if (PW.pt (pw_or (pt_cmpR (op_neP hr) (pe_callH L.r.putIn (hr.mono (by decide)) (by rfl) (passE (E := E) (takes_of rfl rfl rfl rfl)) (pa_cons (pv 4) (pa_cons (pv 14) pa_nil))) (pe_callH L.lput (hr.mono (by decide)) (by rfl) pass0 (pa_cons (pv 5) (pa_cons (pv 15) pa_nil))) (nomark _)) (pw_or1 (pt_cmpR op_ne (pe_callB (GA.call_repr_dat hg (by omega)) (by rfl) L.repr (by decide +kernel) (pa_cons (pe_lst (pa_cons (pv 4) (pa_cons (pv 6) pa_nil))) pa_nil)) (pv 8) (nomark _))))) (pss_one (ps_ret pe_bl)) pss_nil), ?_⟩
  intro D H sc p W N O ns x1 y1 x2 y2 d1 d2 n1 n2 l1 l2 kvs gs kvz vs o1 o3 o9 o10 o11 o12 o16 o17 o18 o19 h sub w1 w2 hN kz each first hO hvs subg q
  have ok := gs_ok h.each sub
  have u1 := w1.ok
  have two := h.two.same (wo_sub.trans wo_sub)
  have pu := puts_go ok u1
  have lg : gs.length ≤ 4 := by
    have := subg.length_le
    rw [List.length_map] at this
    exact this
  have lz := each.length
  rw [List.length_map] at lz
  refine ⟨_, rfl, _, rfl, x1, .ref N, d1, rfl, .dat two.lo.one, w1.oks, fun e => w1.oned.not e, fun n ps e H1 v1 s1 g1 => ?_⟩
  obtain ⟨rfl, rfl⟩ := w1.oned.eq e
  refine ⟨.ref N, rfl, .inr ⟨N, kvz, gs.map dsOf, rfl, s1 _ _ hN, eachs_imp (fun _ _ => wr_same s1) each, fun kv hkv => first kv (List.mem_of_getElem? hkv), by omega, fun i gos hgos => ?_, fun i kv d gos hk hd hgos hb => ?_, fun gos hgos H2 F fs s2 hF hfs => ?_⟩⟩
  · rw [← List.map_take] at hgos
    rw [goods (fun g hg => ok g (List.mem_of_mem_take hg)) hgos, List.map_map]
    have e2 : ((fun x : Go => x.1) ∘ goOf) = fun g : Gw => g.1 := rfl
    rw [e2]
    exact ((List.take_sublist i gs).map _).nodup (subg.nodup (by decide +kernel))
  · rw [List.getElem?_map] at hd
    obtain ⟨g, hg', rfl⟩ := Option.map_eq_some_iff.mp hd
    obtain ⟨u, dr⟩ := ok g (List.mem_of_getElem? hg')
    rcases hb with hb | hb
    · have hb : readUnk (unkD g.1) = none := hb
      rw [u.rd] at hb
      cases hb
    · have hb : readSum g.2.1 = none := hb
      rw [dr.rd] at hb
      cases hb
  · obtain rfl := goods ok hgos
    have s12 := s1.trans s2
    refine ⟨v1, _, _, F, _, gFun gs, rfl, sumT_s (TupS.of s2) g1, hF, worths_go hfs, pu, fun v3 H3 s3 g3 => ?_⟩
    have s13 := s12.trans s3
    refine ⟨_, rfl, _, rfl, y1, _, _, O, _, gFun gs, rfl, sumT_s (TupS.of s13) two.lo.first, s13 _ _ hO, worthsV_s (TupS.of s13) (worths_go hvs), pu, by have := u1.few; omega, fun v4 H4 s4 g4 => ?_⟩
    obtain ⟨z1, z2⟩ := put_one (n := n) pu
    rw [← z1, ← z2] at g4
    have nm : ∀ u ∈ (form (putsG (gFun gs) n (psOf l1)).2).map (·.1), NmU u := form_nm (putsG_nm (g := gFun gs) pu _ (n, []) (fun q hq => hq) (fun u hu => by cases hu))
    have pl := SumOk.plain (n := (putsG (gFun gs) n (psOf l1)).1) nm
    have dep := sum_depth (n := (putsG (gFun gs) n (psOf l1)).1) nm
    refine ⟨_, _, sumT_dp (sumT_s (TupS.of s4) g3), sumT_dp g4, pl, pl, by omega, _, rfl, ?_⟩
    rw [SeqAt.eqv_refl_plain _ pl]
    refine iteF ⟨_, rfl, _, rfl, sz2, fun a na => ?_⟩
    have s14 := s13.trans s4
    have sa := same_new (o := .lst [x1, x2]) na
    have ga : upd H4 a (.lst [x1, x2]) a = some (.lst [x1, x2]) := upd_same
    generalize upd H4 a (.lst [x1, x2]) = H5 at sa ga ⊢
    have s15 := s14.trans sa
    obtain ⟨_, b1, c1⟩ := shape_pd w1.sh w1.uk
    obtain ⟨_, b2, c2⟩ := shape_pd w2.sh w2.uk
    have e1 := shape_show w1.sh w1.uk w1.nz fun q hq => mu_sz (w1.mu q hq)
    have e2 := shape_show w2.sh w2.uk w2.nz fun q hq => mu_sz (w2.mu q hq)
    have f1 := shape_len w1.sh w1.uk w1.nz (fun q hq => mu_sz (w1.mu q hq)) w1.few
    have f2 := shape_len w2.sh w2.uk w2.nz (fun q hq => mu_sz (w2.mu q hq)) w2.few
    refine ⟨a, .list [d1, d2], rfl, .lst (SqL.of ga) (.cons (dp_same s15 two.lo.one) (.cons (dp_same s15 two.other) .nil)), by simp [PyData.showable, PyData.showableAll, e1, e2], by simp [PyData.hasDict, PyData.hasDictAll, c1, c2], by simp only [PyData.depth, PyData.depthAll]; omega, two_len f1 f2, ?_⟩
    have zz : (!decide (V.str (PyData.list [d1, d2]).shown = V.str (PyData.list [d1, d2]).shown)) = false := by simp
    refine ⟨_, rfl, rfl, _, rfl, ?_⟩
    rw [zz]
    exact iteF (q H5 s15)
end
end DR

namespace DR
open PySem PySem.Spec PyProof.Rows L2
/-! ### addresses -/
theorem passN {X : Cx} : Passes (L2.CX X.prog X.w) X E0 := fun _ _ _ _ _ _ _ c => by
  obtain ⟨_, _, _, _, _, _, _, _, _, _, _, _, y⟩ := c
  exact y.elim
def dA (q : Int × Mul) : PyData := match addrOf q.1 q.2 with
  | none => .none
  | some (o, n) => .tuple [keyDat o, .int n]
theorem dA_dp {K : PySem.W.Frag} {H : Hp} {v : V} {n : Int} {ps : Mul} (h : AddrV H v (addrOf n ps)) : Dp K H v (dA (n, ps)) := by
  show Dp K H v (match addrOf n ps with | none => .none | some (o, n) => .tuple [keyDat o, .int n])
  cases e : addrOf n ps with
  | none =>
    rw [e] at h
    obtain rfl : v = .non := h
    exact .non
  | some r =>
    obtain ⟨o, m⟩ := r
    rw [e] at h
    obtain ⟨a, rfl, ha⟩ := h
    exact .tup (SqT.of ha) (.cons (dp_key o) (.cons (.int m) .nil))
theorem addr_wo {H : Hp} {D : Addr} {zs : List V} {v : V} {r : Option (Key × Int)} (hD : H D = some (.lst zs)) (h : AddrV H v r) : AddrV (wo H D) v r := by
  cases r with
  | none => exact h
  | some r =>
    obtain ⟨o, n⟩ := r
    obtain ⟨a, e, ha⟩ := h
    exact ⟨a, e, by rw [wo_ne (fun z => by rw [z, hD] at ha; cases ha)]; exact ha⟩
theorem dA_plain (q : Int × Mul) : (dA q).plain = true ∧ (dA q).depth ≤ 3 := by
  unfold dA
  split
  · exact ⟨rfl, by simp [PyData.depth]⟩
  · rename_i o n _
    have h1 := lay_kD o
    rw [← keyDat_kD] at h1
    refine ⟨by simp [PyData.plain, PyData.plainAll, h1], ?_⟩
    cases o <;> simp [keyDat, PyData.depth, PyData.depthAll]
theorem dAs_plain : ∀ l : List (Int × Mul), PyData.plainAll (l.map dA) = true ∧ PyData.depthAll (l.map dA) ≤ 3
  | [] => ⟨rfl, by simp [PyData.depthAll]⟩
  | q :: l => by
    obtain ⟨a, b⟩ := dAs_plain l
    obtain ⟨c, d⟩ := dA_plain q
    rw [List.map_cons]
    refine ⟨by simp [PyData.plainAll, a, c], ?_⟩
    rw [PyData.depthAll]
    exact Nat.max_le.mpr ⟨d, b⟩
abbrev SumP (H : Hp) (v : V) (q : Int × Mul) : Prop := SumT H v q.1 q.2
def someL (n1 n2 : Int) (l1 l2 : Mul) : List (Int × Mul) := [(n1, psOf l1), (n2, psOf l2), (4, [([.inr sPiece, .inr "a"], 1)]), (0, [([.inr sName, .inr "a"], 1)]), (2, [([.inr sPiece, .inr "b"], 2)])]
theorem adr_step {K : PySem.W.Frag} {H4 H5 : Hp} {D : Addr} {v : V} {zs : List V} {ds : List PyData} {q : Int × Mul} (hD4 : H4 D = some (.lst zs)) (s5 : Same H4 H5) (hds : DpAll K (wo H4 D) zs ds) (hv : AddrV H5 v (addrOf q.1 q.2)) : DpAll K (wo (upd H5 D (.lst (zs ++ [v]))) D) (zs ++ [v]) (ds ++ [dA q]) := by
  rw [wo_upd]
  exact dps_snoc (dA_dp (addr_wo (s5 _ _ hD4) hv)) (dps_same (wo_mono s5) hds)
theorem mk_neg {K : PySem.W.Frag} {i : Int} : MkD K (tUn (rU fun i => .int (-i)) (tC (.int i))) (.int (-i)) := fun σ H Q q => ⟨_, rfl, q H _ (Same.refl H) (.int _)⟩
theorem sz2i : Sz 2 := by unfold Sz; decide
theorem one_ok {n m : Int} {u : List Key} (hu : Uk u) (hn : Sz n) (hm : Sz m) (hf : form [(u, m)] = [(u, m)]) : SumOk n [(u, m)] :=
  ⟨List.nodup_cons.mpr ⟨by simp, List.nodup_nil⟩, fun v hv => by
    rw [show v = u by simpa using hv]
    exact hu, hf, (by show 1 ≤ 5; decide), fun q hq => by
    rw [show q = (u, m) by simpa using hq]
    exact hm, hn⟩
theorem someL_ok {n1 n2 : Int} {l1 l2 : Mul} (h1 : SumOk n1 (psOf l1)) (h2 : SumOk n2 (psOf l2)) : ∀ q ∈ someL n1 n2 l1 l2, SumOk q.1 q.2 := by
  intro q hq
  simp only [someL, List.mem_cons, List.not_mem_nil, or_false] at hq
  have a : Uk [.inr sPiece, .inr "a"] := ⟨nm_piece "a", by decide +kernel, sh_str (by decide +kernel) (by decide +kernel), List.mem_of_getElem? (i := 1) rfl⟩
  have b : Uk [.inr sName, .inr "a"] := ⟨nm_name "a", by decide +kernel, sh_str (by decide +kernel) (by decide +kernel), List.mem_of_getElem? (i := 3) rfl⟩
  have c : Uk [.inr sPiece, .inr "b"] := ⟨nm_piece "b", by decide +kernel, sh_str (by decide +kernel) (by decide +kernel), List.mem_of_getElem? (i := 0) rfl⟩
  rcases hq with rfl | rfl | rfl | rfl | rfl
  · exact h1
  · exact h2
  · exact one_ok a (by unfold Sz; decide) sz1 (by decide +kernel)
  · exact one_ok b sz0 sz1 (by decide +kernel)
  · exact one_ok c sz2i sz2i (by decide +kernel)
/-- what is told loosely of a piece -/
def looD : PyData := .list [.tuple [.tuple [.str sPiece, .str "a"], .int 2], .list [.list [.str sPiece, .str "a"], .int (-1)], .tuple [.tuple [.str sName, .str "b"], .int 0]]
theorem loo_rd (k : Int) : readSum (.tuple [.int k, looD]) = some (k, [([.inr sPiece, .inr "a"], 1)]) := by
  have e : (items looD).bind (fun ds => readParts ds []) = some [([.inr sPiece, .inr "a"], 1), ([.inr sName, .inr "b"], 0)] := by decide +kernel
  have f : form [([.inr sPiece, .inr "a"], 1), ([.inr sName, .inr "b"], 0)] = [([.inr sPiece, .inr "a"], 1)] := by decide +kernel
  have e2 : readParts [.tuple [.tuple [.str sPiece, .str "a"], .int 2], .list [.list [.str sPiece, .str "a"], .int (-1)], .tuple [.tuple [.str sName, .str "b"], .int 0]] [] = some [([.inr sPiece, .inr "a"], 1), ([.inr sName, .inr "b"], 0)] := e
  show (readParts [.tuple [.tuple [.str sPiece, .str "a"], .int 2], .list [.list [.str sPiece, .str "a"], .int (-1)], .tuple [.tuple [.str sName, .str "b"], .int 0]] []).map (fun kvs => (k, form kvs)) = _
  rw [e2]
  show some (k, form _) = _
  rw [f]
theorem loo_ok (k : Int) : okSum (.tuple [.int k, looD]) := by
  have h : okSB (.tuple [.int 0, looD]) = true := by decide +kernel
  have h2 := okSB_ok h
  intro n q ds e1 e2
  refine h2 0 q ds ?_ e2
  have := Option.some.inj (show some [PyData.int k, looD] = some [.int n, q] from e1)
  obtain rfl := (List.cons.inj (List.cons.inj this).2).1
  rfl
theorem loo_addr (k : Int) : addrOf k [([.inr sPiece, .inr "a"], 1)] = some (.inr "a", k) := by
  have ez : addrOf k [([.inr sPiece, .inr "a"], 1)] = if sPiece = sPiece then some (.inr "a", k) else none := rfl
  rw [ez, if_pos rfl]
section
variable {P : Program} {w : World} {K : PySem.W.Frag} {mg : Str → Option Value} {base : Heap} {CS CN CW f : Addr} {c : Value} {T' : List (Addr × Str)} {A : Around} {outer : List Env} {s : Shared} {H0 : Hp} {E : XK}
theorem s13 : ∃ t, PS (XL P w K mg base f c A outer s H0 E) (fb 13) t ∧ ∀ (D : Ends) (H : Hp) (sc p : Addr) (ns : List Int) (x1 y1 x2 y2 : V) (d1 d2 : PyData) (n1 n2 : Int) (l1 l2 : Mul) (o1 o3 o8 o9 o10 o11 o12 o13 o14 o15 o16 o17 o18 o19 : Option V), Ltwo K T' sc ns x1 y1 x2 y2 d1 d2 n1 n2 l1 l2 (wo H p) →
      (∀ H' So xs, Same H H' → H' So = some (.lst xs) → PySem.W.EachIs (SumP H') xs (someL n1 n2 l1 l2) → D.nx (sgl sc o1 (some (.ref p)) o3 (some x1) (some y1) (some x2) (some y2) o8 o9 o10 o11 o12 o13 o14 o15 (some (.ref So)) o17 o18 o19) H') → t D (sgl sc o1 (some (.ref p)) o3 (some x1) (some y1) (some x2) (some y2) o8 o9 o10 o11 o12 o13 o14 o15 o16 o17 o18 o19) H := by
  refine ⟨_, ps_set (i := 16) scLaw.nd rfl (.inl rfl) (pe_lst (pa_cons (pv 5) (pa_cons (pv 7) (pa_cons (pe_tup (pa_cons pe_int (pa_cons (pe_tup (pa_cons (pe_tup (pa_cons (pe_tup (pa_cons pe_str (pa_cons pe_str pa_nil))) (pa_cons pe_int pa_nil))) pa_nil)) pa_nil))) (pa_cons (pe_tup (pa_cons pe_int (pa_cons (pe_tup (pa_cons (pe_tup (pa_cons (pe_tup (pa_cons pe_str (pa_cons pe_str pa_nil))) (pa_cons pe_int pa_nil))) pa_nil)) pa_nil))) (pa_cons (pe_tup (pa_cons pe_int (pa_cons (pe_tup (pa_cons (pe_tup (pa_cons (pe_tup (pa_cons pe_str (pa_cons pe_str pa_nil))) (pa_cons pe_int pa_nil))) pa_nil)) pa_nil))) pa_nil)))))), ?_⟩
  intro D H sc p ns x1 y1 x2 y2 d1 d2 n1 n2 l1 l2 o1 o3 o8 o9 o10 o11 o12 o13 o14 o15 o16 o17 o18 o19 h q
  refine ⟨_, rfl, _, rfl, ?_⟩
  refine ⟨sz2, fun ua1 ub1 => ?_⟩
  have ea1 := same_new (o := .tup [V.str "piece", V.str "a"]) ub1
  have fa1 : upd H ua1 (.tup [V.str "piece", V.str "a"]) ua1 = some (.tup [V.str "piece", V.str "a"]) := upd_same
  generalize upd H ua1 (.tup [V.str "piece", V.str "a"]) = Ja1 at ea1 fa1 ⊢
  refine ⟨sz2, fun uc1 ud1 => ?_⟩
  have eb1 := same_new (o := .tup [V.ref ua1, V.int 1]) ud1
  have fb1 : upd Ja1 uc1 (.tup [V.ref ua1, V.int 1]) uc1 = some (.tup [V.ref ua1, V.int 1]) := upd_same
  generalize upd Ja1 uc1 (.tup [V.ref ua1, V.int 1]) = Jb1 at eb1 fb1 ⊢
  refine ⟨(by show 1 ≤ sizeLine; decide), fun ue1 uf1 => ?_⟩
  have ec1 := same_new (o := .tup [V.ref uc1]) uf1
  have fc1 : upd Jb1 ue1 (.tup [V.ref uc1]) ue1 = some (.tup [V.ref uc1]) := upd_same
  generalize upd Jb1 ue1 (.tup [V.ref uc1]) = Jc1 at ec1 fc1 ⊢
  refine ⟨sz2, fun ug1 uh1 => ?_⟩
  have ed1 := same_new (o := .tup [V.int 4, V.ref ue1]) uh1
  have fd1 : upd Jc1 ug1 (.tup [V.int 4, V.ref ue1]) ug1 = some (.tup [V.int 4, V.ref ue1]) := upd_same
  generalize upd Jc1 ug1 (.tup [V.int 4, V.ref ue1]) = Jd1 at ed1 fd1 ⊢
  have S1 : Same H Jd1 := ((ea1.trans eb1).trans ec1).trans ed1
  have T1 : SumT Jd1 (.ref ug1) 4 [([.inr sPiece, .inr "a"], 1)] := ⟨ug1, ue1, [.ref uc1], rfl, fd1, ed1 _ _ fc1, .cons ⟨uc1, ua1, rfl, (ec1.trans ed1) _ _ fb1, ((eb1.trans ec1).trans ed1) _ _ fa1⟩ .nil⟩
  refine ⟨sz2, fun ua2 ub2 => ?_⟩
  have ea2 := same_new (o := .tup [V.str "name", V.str "a"]) ub2
  have fa2 : upd Jd1 ua2 (.tup [V.str "name", V.str "a"]) ua2 = some (.tup [V.str "name", V.str "a"]) := upd_same
  generalize upd Jd1 ua2 (.tup [V.str "name", V.str "a"]) = Ja2 at ea2 fa2 ⊢
  refine ⟨sz2, fun uc2 ud2 => ?_⟩
  have eb2 := same_new (o := .tup [V.ref ua2, V.int 1]) ud2
  have fb2 : upd Ja2 uc2 (.tup [V.ref ua2, V.int 1]) uc2 = some (.tup [V.ref ua2, V.int 1]) := upd_same
  generalize upd Ja2 uc2 (.tup [V.ref ua2, V.int 1]) = Jb2 at eb2 fb2 ⊢
  refine ⟨(by show 1 ≤ sizeLine; decide), fun ue2 uf2 => ?_⟩
  have ec2 := same_new (o := .tup [V.ref uc2]) uf2
  have fc2 : upd Jb2 ue2 (.tup [V.ref uc2]) ue2 = some (.tup [V.ref uc2]) := upd_same
  generalize upd Jb2 ue2 (.tup [V.ref uc2]) = Jc2 at ec2 fc2 ⊢
  refine ⟨sz2, fun ug2 uh2 => ?_⟩
  have ed2 := same_new (o := .tup [V.int 0, V.ref ue2]) uh2
  have fd2 : upd Jc2 ug2 (.tup [V.int 0, V.ref ue2]) ug2 = some (.tup [V.int 0, V.ref ue2]) := upd_same
  generalize upd Jc2 ug2 (.tup [V.int 0, V.ref ue2]) = Jd2 at ed2 fd2 ⊢
  have S2 : Same Jd1 Jd2 := ((ea2.trans eb2).trans ec2).trans ed2
  have T2 : SumT Jd2 (.ref ug2) 0 [([.inr sName, .inr "a"], 1)] := ⟨ug2, ue2, [.ref uc2], rfl, fd2, ed2 _ _ fc2, .cons ⟨uc2, ua2, rfl, (ec2.trans ed2) _ _ fb2, ((eb2.trans ec2).trans ed2) _ _ fa2⟩ .nil⟩
  refine ⟨sz2, fun ua3 ub3 => ?_⟩
  have ea3 := same_new (o := .tup [V.str "piece", V.str "b"]) ub3
  have fa3 : upd Jd2 ua3 (.tup [V.str "piece", V.str "b"]) ua3 = some (.tup [V.str "piece", V.str "b"]) := upd_same
  generalize upd Jd2 ua3 (.tup [V.str "piece", V.str "b"]) = Ja3 at ea3 fa3 ⊢
  refine ⟨sz2, fun uc3 ud3 => ?_⟩
  have eb3 := same_new (o := .tup [V.ref ua3, V.int 2]) ud3
  have fb3 : upd Ja3 uc3 (.tup [V.ref ua3, V.int 2]) uc3 = some (.tup [V.ref ua3, V.int 2]) := upd_same
  generalize upd Ja3 uc3 (.tup [V.ref ua3, V.int 2]) = Jb3 at eb3 fb3 ⊢
  refine ⟨(by show 1 ≤ sizeLine; decide), fun ue3 uf3 => ?_⟩
  have ec3 := same_new (o := .tup [V.ref uc3]) uf3
  have fc3 : upd Jb3 ue3 (.tup [V.ref uc3]) ue3 = some (.tup [V.ref uc3]) := upd_same
  generalize upd Jb3 ue3 (.tup [V.ref uc3]) = Jc3 at ec3 fc3 ⊢
  refine ⟨sz2, fun ug3 uh3 => ?_⟩
  have ed3 := same_new (o := .tup [V.int 2, V.ref ue3]) uh3
  have fd3 : upd Jc3 ug3 (.tup [V.int 2, V.ref ue3]) ug3 = some (.tup [V.int 2, V.ref ue3]) := upd_same
  generalize upd Jc3 ug3 (.tup [V.int 2, V.ref ue3]) = Jd3 at ed3 fd3 ⊢
  have S3 : Same Jd2 Jd3 := ((ea3.trans eb3).trans ec3).trans ed3
  have T3 : SumT Jd3 (.ref ug3) 2 [([.inr sPiece, .inr "b"], 2)] := ⟨ug3, ue3, [.ref uc3], rfl, fd3, ed3 _ _ fc3, .cons ⟨uc3, ua3, rfl, (ec3.trans ed3) _ _ fb3, ((eb3.trans ec3).trans ed3) _ _ fa3⟩ .nil⟩
  refine ⟨(by show 5 ≤ sizeLine; decide), fun So hSo => ?_⟩
  have sS := same_new (o := .lst [y1, y2, V.ref ug1, V.ref ug2, V.ref ug3]) hSo
  have s3S := S3.trans sS
  have s2S := S2.trans s3S
  have s0S := S1.trans s2S
  have up := fun {v : V} {n : Int} {ps : Mul} {Ha Hb : Hp} (e : Same Ha Hb) (g : SumT Ha v n ps) => sumT_s (TupS.of e) g
  exact q _ So _ s0S upd_same (.cons (up (wo_sub.trans s0S) h.lo.first) (.cons (up (wo_sub.trans s0S) h.second) (.cons (up s2S T1) (.cons (up s3S T2) (.cons (up sS T3) .nil)))))
theorem s14 (L : TL P w K mg base CS CN CW T') (hr : Room 18 (XL P w K mg base f c A outer s H0 E).A) : ∃ t, PS (XL P w K mg base f c A outer s H0 E) (fb 14) t ∧ ∀ (D : Ends) (H : Hp) (sc p So : Addr) (ns : List Int) (x1 y1 x2 y2 : V) (d1 d2 : PyData) (n1 n2 : Int) (l1 l2 : Mul) (xs : List V) (o1 o3 o8 o9 o10 o11 o12 o13 o14 o15 o17 o18 o19 : Option V), SumOk n1 (psOf l1) → SumOk n2 (psOf l2) → H So = some (.lst xs) → PySem.W.EachIs (SumP H) xs (someL n1 n2 l1 l2) →
      (∀ H', Same H H' → D.nx (sgl sc o1 (some (.ref p)) o3 (some x1) (some y1) (some x2) (some y2) o8 o9 o10 o11 o12 o13 o14 o15 (some (.ref So)) o17 o18 o19) H') → t D (sgl sc o1 (some (.ref p)) o3 (some x1) (some y1) (some x2) (some y2) o8 o9 o10 o11 o12 o13 o14 o15 (some (.ref So)) o17 o18 o19) H := by
  refine ⟨_, (ps_if (pt_cmpR (op_neP hr) (pe_lc (own := [("thing", 19)]) (g := gName 19) (tt := tYes) (te := tCall (spAddrOf K CS) [] E0 (tCons (tVar 19) tNil)) rfl scLaw.nd (pi_list (pv 16)) (blkOk_by (N := NL) (sc := defScope sLaw) (by decide +kernel)) (fun _ _ _ _ _ => pg_name (i := 19) scLaw.nd rfl (.inl rfl)) (fun _ _ _ _ _ => pts_nil) (fun _ _ _ _ _ => (pe_callH L.r.addr (hr.mono (by decide)) (by rfl) passN (pa_cons (pv 19) pa_nil)))) (pe_lc (own := [("thing", 19)]) (g := gName 19) (tt := tYes) (te := tCall (spAddrIn K) [] E0 (tCons (tVar 19) tNil)) rfl scLaw.nd (pi_list (pv 16)) (blkOk_by (N := NL) (sc := defScope sLaw) (by decide +kernel)) (fun _ _ _ _ _ => pg_name (i := 19) scLaw.nd rfl (.inl rfl)) (fun _ _ _ _ _ => pts_nil) (fun _ _ _ _ _ => (pe_callH L.laddr (hr.mono (by decide)) (by rfl) pass0 (pa_cons (pv 19) pa_nil)))) (nomark _)) (pss_one (ps_ret pe_bl)) pss_nil), ?_⟩
  intro D H sc p So ns x1 y1 x2 y2 d1 d2 n1 n2 l1 l2 xs o1 o3 o8 o9 o10 o11 o12 o13 o14 o15 o17 o18 o19 u1 u2 hS hxs q
  have oks := someL_ok u1 u2
  have l5 : (someL n1 n2 l1 l2).length = 5 := rfl
  generalize someL n1 n2 l1 l2 = sl at hxs oks l5 ⊢
  have lx : xs.length = sl.length := hxs.length
  refine ⟨_, rfl, So, rfl, ⟨_, SqL.of hS⟩, fun D1 hD1 => ?_⟩
  refine lc_it (walk_list (xs := xs)) (fun i H4 => (∀ b x, b ≠ D1 → H b = some x → H4 b = some x) ∧ ∃ zs, H4 D1 = some (.lst zs) ∧ zs.length = i ∧ DpAll K (wo H4 D1) zs ((sl.take i).map dA))
    ⟨fun b x hb e => by rw [upd_ne hb]; exact e, [], upd_same, rfl, .nil⟩ (fun i H4 _ ⟨kp, _⟩ => SqL.of (kp _ _ (ne_of_none hS hD1) hS)) ?_ ?_
  · rintro i x H4 H4' hi ⟨kp, zs, hD4, hl, hds⟩ ⟨rfl, hx⟩
    obtain ⟨g, hg, hsum⟩ := eachs_get hxs hx
    have ok := oks g (List.mem_of_getElem? hg)
    have i2 : i < sl.length := (List.getElem?_eq_some_iff.mp hg).1
    have hs4 : SumT H4' x g.1 g.2 := sumT_s (fun a xs e => kp _ _ (ne_of_none e hD1) e) hsum
    refine ⟨rfl, yes_go (iteT ⟨_, rfl, x, sumD g.1 g.2, rfl, .dat (sumT_dp hs4), ok.oks, fun e => ok.oned.not e, fun n ps e => ?_⟩)⟩
    obtain ⟨rfl, rfl⟩ := ok.oned.eq e
    refine ⟨ok.nm, by have := ok.few; omega, fun v' H5 s5 hv => ⟨zs, s5 _ _ hD4, small1000 (by omega), fun b x hb e => by rw [upd_ne hb]; exact s5 _ _ (kp b x hb e), zs ++ [v'], upd_same, by simp [hl], ?_⟩⟩
    rw [List.take_add_one, hg, List.map_append]
    exact adr_step hD4 s5 hds hv
  · rintro H4 ⟨kp, zs, hD4, hl, hds⟩
    rw [lx, List.take_length] at hds
    have s4 : Same H H4 := fun b x e => kp b x (ne_of_none e hD1) e
    have dp1 : Dp K H4 (.ref D1) (.list (sl.map dA)) := .lst (SqL.of hD4) (dps_same wo_sub hds)
    have hS4 := s4 _ _ hS
    have hxs4 := eachs_imp (fun _ _ => sumT_s (TupS.of s4)) hxs
    clear kp hD4 hds
    refine ⟨_, rfl, So, rfl, ⟨_, SqL.of hS4⟩, fun D2 hD2 => ?_⟩
    refine lc_it (walk_list (xs := xs)) (fun i H5 => (∀ b x, b ≠ D2 → H4 b = some x → H5 b = some x) ∧ ∃ zs, H5 D2 = some (.lst zs) ∧ zs.length = i ∧ DpAll K (wo H5 D2) zs ((sl.take i).map dA))
      ⟨fun b x hb e => by rw [upd_ne hb]; exact e, [], upd_same, rfl, .nil⟩ (fun i H5 _ ⟨kp, _⟩ => SqL.of (kp _ _ (ne_of_none hS4 hD2) hS4)) ?_ ?_
    · rintro i x H5 H5' hi ⟨kp, zs, hD5, hl, hds⟩ ⟨rfl, hx⟩
      obtain ⟨g, hg, hsum⟩ := eachs_get hxs4 hx
      have ok := oks g (List.mem_of_getElem? hg)
      have i2 : i < sl.length := (List.getElem?_eq_some_iff.mp hg).1
      have hs5 : SumT H5' x g.1 g.2 := sumT_s (fun a xs e => kp _ _ (ne_of_none e hD2) e) hsum
      refine ⟨rfl, yes_go (iteT ⟨_, rfl, x, g.1, g.2, rfl, hs5, ok.nm, by have := ok.few; omega, fun v' H6 s6 hv => ⟨zs, s6 _ _ hD5, small1000 (by omega), fun b x hb e => by rw [upd_ne hb]; exact s6 _ _ (kp b x hb e), zs ++ [v'], upd_same, by simp [hl], ?_⟩⟩)⟩
      rw [List.take_add_one, hg, List.map_append]
      exact adr_step hD5 s6 hds hv
    · rintro H5 ⟨kp, zs, hD5, hl, hds⟩
      rw [lx, List.take_length] at hds
      have s5 : Same H4 H5 := fun b x e => kp b x (ne_of_none e hD2) e
      obtain ⟨pl, dep⟩ := dAs_plain sl
      have plL : (PyData.list (sl.map dA)).plain = true := pl
      refine ⟨_, _, dp_same s5 dp1, .lst (SqL.of hD5) (dps_same wo_sub hds), plL, plL, by simp only [PyData.depth]; omega, _, rfl, ?_⟩
      rw [SeqAt.eqv_refl_plain _ plL]
      exact iteF (q H5 (s4.trans s5))
theorem s15 (L : TL P w K mg base CS CN CW T') (hr : Room 18 (XL P w K mg base f c A outer s H0 E).A) : ∃ t, PS (XL P w K mg base f c A outer s H0 E) (fb 15) t ∧ ∀ (D : Ends) (H : Hp) (sc p : Addr) (ns : List Int) (cc : Nat) (x1 y1 x2 y2 : V) (d1 d2 : PyData) (n1 n2 : Int) (l1 l2 : Mul) (o1 o3 o8 o9 o10 o11 o12 o13 o14 o15 o16 o17 o18 o19 : Option V), Ltwo K T' sc ns x1 y1 x2 y2 d1 d2 n1 n2 l1 l2 (wo H p) → Pool H p cc → cc < 800 →
      (∀ H' k, Ltwo K T' sc ns x1 y1 x2 y2 d1 d2 n1 n2 l1 l2 (wo H' p) → Pool H' p (cc + 1) → D.nx (sgl sc o1 (some (.ref p)) o3 (some x1) (some y1) (some x2) (some y2) o8 o9 o10 o11 o12 o13 o14 o15 o16 (some (.int k)) o18 o19) H') → t D (sgl sc o1 (some (.ref p)) o3 (some x1) (some y1) (some x2) (some y2) o8 o9 o10 o11 o12 o13 o14 o15 o16 o17 o18 o19) H := by
  refine ⟨_, ps_set (i := 17) scLaw.nd rfl (.inl rfl) (pe_op op_sub (pe_callH L.take (hr.mono (by decide)) (by rfl) pass0 (pa_cons (pv 2) (pa_cons pe_int pa_nil))) pe_int), ?_⟩
  intro D H sc p ns cc x1 y1 x2 y2 d1 d2 n1 n2 l1 l2 o1 o3 o8 o9 o10 o11 o12 o13 o14 o15 o16 o17 o18 o19 h pl hc q
  refine ⟨_, rfl, p, cc, 9, rfl, pl, by omega, by decide, by decide, fun r o r0 r9 pla => ⟨r, 4, rfl, rfl, q _ _ (h.same (wo_dr fun b x hb e => by rw [upd_ne hb]; exact e)) pla⟩⟩
theorem s16 (L : TL P w K mg base CS CN CW T') (hr : Room 18 (XL P w K mg base f c A outer s H0 E).A) : ∃ t, PS (XL P w K mg base f c A outer s H0 E) (fb 16) t ∧ ∀ (D : Ends) (H : Hp) (sc p : Addr) (k : Int) (x1 y1 x2 y2 : V) (o1 o3 o8 o9 o10 o11 o12 o13 o14 o15 o16 o18 o19 : Option V),
      (∀ H' v, Same H H' → Dp K H' v (.tuple [.int k, looD]) → D.nx (sgl sc o1 (some (.ref p)) o3 (some x1) (some y1) (some x2) (some y2) o8 o9 o10 o11 o12 o13 o14 o15 o16 (some (.int k)) (some v) o19) H') → t D (sgl sc o1 (some (.ref p)) o3 (some x1) (some y1) (some x2) (some y2) o8 o9 o10 o11 o12 o13 o14 o15 o16 (some (.int k)) o18 o19) H := by
  refine ⟨_, ps_set (i := 18) scLaw.nd rfl (.inl rfl) (pe_tup (pa_cons (pv 17) (pa_cons (pe_lst (pa_cons (pe_tup (pa_cons (pe_tup (pa_cons pe_str (pa_cons pe_str pa_nil))) (pa_cons pe_int pa_nil))) (pa_cons (pe_lst (pa_cons (pe_lst (pa_cons pe_str (pa_cons pe_str pa_nil))) (pa_cons (pe_un un_neg pe_int) pa_nil))) (pa_cons (pe_tup (pa_cons (pe_tup (pa_cons pe_str (pa_cons pe_str pa_nil))) (pa_cons pe_int pa_nil))) pa_nil)))) pa_nil))), ?_⟩
  intro D H sc p k x1 y1 x2 y2 o1 o3 o8 o9 o10 o11 o12 o13 o14 o15 o16 o18 o19 q
  have m : MkD K (tLst (tCons (tTup (tCons (tTup (tCons (tC (.str "piece")) (tCons (tC (.str "a")) tNil))) (tCons (tC (.int 2)) tNil))) (tCons (tLst (tCons (tLst (tCons (tC (.str "piece")) (tCons (tC (.str "a")) tNil))) (tCons (tUn (rU fun i => .int (-i)) (tC (.int 1))) tNil))) (tCons (tTup (tCons (tTup (tCons (tC (.str "name")) (tCons (tC (.str "b")) tNil))) (tCons (tC (.int 0)) tNil))) tNil)))) looD := by
    repeat' (first | exact mk_int | exact mk_str | exact mk_neg | exact mkds_nil | refine mkds_cons ?_ ?_ | refine mk_tup ?_ (by decide) | refine mk_lst ?_ (by decide))
  refine ⟨_, rfl, m _ _ _ fun H1 v s1 hv => ⟨sz2, fun t nt => ?_⟩⟩
  have st := same_new (o := .tup [V.int k, v]) nt
  exact q _ _ (s1.trans st) (.tup (SqT.of upd_same) (.cons (.int k) (.cons (dp_same (nw_sub.trans st) hv) .nil)))
theorem s17 (L : TL P w K mg base CS CN CW T') (hr : Room 18 (XL P w K mg base f c A outer s H0 E).A) : ∃ t, PS (XL P w K mg base f c A outer s H0 E) (fb 17) t ∧ ∀ (D : Ends) (H : Hp) (sc p : Addr) (ns : List Int) (k : Int) (v : V) (x1 y1 x2 y2 : V) (d1 d2 : PyData) (n1 n2 : Int) (l1 l2 : Mul) (o1 o3 o8 o9 o10 o11 o12 o13 o14 o15 o16 o19 : Option V), Ltwo K T' sc ns x1 y1 x2 y2 d1 d2 n1 n2 l1 l2 (wo H p) → Drw d1 n1 l1 → Dp K H v (.tuple [.int k, looD]) →
      (∀ H', Same H H' → D.nx (sgl sc o1 (some (.ref p)) o3 (some x1) (some y1) (some x2) (some y2) o8 o9 o10 o11 o12 o13 o14 o15 o16 (some (.int k)) (some v) o19) H') → t D (sgl sc o1 (some (.ref p)) o3 (some x1) (some y1) (some x2) (some y2) o8 o9 o10 o11 o12 o13 o14 o15 o16 (some (.int k)) (some v) o19) H := by
  refine ⟨_, (ps_if (PW.pt (pw_or (pt_cmpR (op_neP hr) (pe_callH L.r.addr (hr.mono (by decide)) (by rfl) (passE (E := E) (takes_of rfl rfl rfl rfl)) (pa_cons (pv 18) pa_nil)) (pe_tup (pa_cons pe_str (pa_cons (pv 17) pa_nil))) (nomark _)) (pw_or1 (pt_cmpR (op_neP hr) (pe_callH L.r.addr (hr.mono (by decide)) (by rfl) (passE (E := E) (takes_of rfl rfl rfl rfl)) (pa_cons (pv 4) pa_nil)) (pe_callH L.laddr (hr.mono (by decide)) (by rfl) pass0 (pa_cons (pv 5) pa_nil)) (nomark _))))) (pss_one (ps_ret pe_bl)) pss_nil), ?_⟩
  intro D H sc p ns k v x1 y1 x2 y2 d1 d2 n1 n2 l1 l2 o1 o3 o8 o9 o10 o11 o12 o13 o14 o15 o16 o19 h w1 hv q
  have two := h.same wo_sub
  have u1 := w1.ok
  have f1 := u1.few
  refine ⟨_, rfl, v, _, rfl, .dat hv, loo_ok k, fun e => ?_, fun n ps e => ?_⟩
  · rw [loo_rd] at e
    cases e
  rw [loo_rd] at e
  obtain ⟨e1, e2⟩ := Prod.mk.inj (Option.some.inj e)
  subst e1
  subst e2
  refine ⟨fun u hu => ?_, by decide, fun v1 H1 s1 g1 => ?_⟩
  · rw [show u = [.inr sPiece, .inr "a"] by simpa using hu]
    exact nm_piece "a"
  · rw [loo_addr] at g1
    obtain ⟨a1, rfl, ha1⟩ := g1
    refine ⟨_, rfl, sz2, fun a2 na2 => ?_⟩
    have s2 := same_new (o := .tup [V.str "a", V.int k]) na2
    have pl : (PyData.tuple [.str "a", .int k]).plain = true := rfl
    refine ⟨.tuple [.str "a", .int k], .tuple [.str "a", .int k], .tup (SqT.of (s2 _ _ ha1)) (.cons (.str _) (.cons (.int k) .nil)), .tup (SqT.of upd_same) (.cons (.str _) (.cons (.int k) .nil)), pl, pl, by simp [PyData.depth, PyData.depthAll], _, rfl, ?_⟩
    rw [SeqAt.eqv_refl_plain _ pl]
    have s02 := s1.trans s2
    generalize upd H1 a2 (.tup [V.str "a", V.int k]) = H2 at s02 ⊢
    refine iteF ⟨_, rfl, x1, d1, rfl, .dat (dp_same s02 two.lo.one), w1.oks, fun e => w1.oned.not e, fun n ps e => ?_⟩
    obtain ⟨rfl, rfl⟩ := w1.oned.eq e
    refine ⟨u1.nm, by omega, fun v3 H3 s3 g3 => ?_⟩
    have s03 := s02.trans s3
    refine ⟨_, rfl, y1, _, _, rfl, sumT_s (TupS.of s03) two.lo.first, u1.nm, by omega, fun v4 H4 s4 g4 => ?_⟩
    obtain ⟨pl, dep⟩ := dA_plain (n, psOf l1)
    refine ⟨_, _, dp_same s4 (dA_dp g3), dA_dp g4, pl, pl, by omega, _, rfl, ?_⟩
    rw [SeqAt.eqv_refl_plain _ pl]
    exact iteF (q H4 (s03.trans s4))
theorem s18 (L : TL P w K mg base CS CN CW T') (hr : Room 18 (XL P w K mg base f c A outer s H0 E).A) : ∃ t, PS (XL P w K mg base f c A outer s H0 E) (fb 18) t ∧ ∀ (D : Ends) (H : Hp) (sc p : Addr) (ns : List Int) (cc : Nat) (x1 y1 x2 y2 : V) (d1 d2 : PyData) (n1 n2 : Int) (l1 l2 : Mul) (o1 o3 o8 o9 o10 o11 o12 o13 o14 o15 o16 o17 o18 o19 : Option V), Ltwo K T' sc ns x1 y1 x2 y2 d1 d2 n1 n2 l1 l2 (wo H p) → Pool H p cc → cc < 900 → Drw d1 n1 l1 →
      (∀ H', LamX.Tabs T' H' → SqL K H' sc (ns.map V.int) → D.nx (sgl sc o1 (some (.ref p)) o3 (some x1) (some y1) (some x2) (some y2) o8 o9 o10 o11 o12 o13 o14 o15 o16 o17 o18 o19) H') → t D (sgl sc o1 (some (.ref p)) o3 (some x1) (some y1) (some x2) (some y2) o8 o9 o10 o11 o12 o13 o14 o15 o16 o17 o18 o19) H := by
  refine ⟨_, (ps_if (pt_not (pt_val (pe_callH L.ref (hr.mono (by decide)) (by rfl) (passE (E := E) (takes_of rfl rfl rfl rfl)) (pa_cons (pv 2) (pa_cons (pv 4) pa_nil))))) (pss_one (ps_ret pe_bl)) pss_nil), ?_⟩
  intro D H sc p ns cc x1 y1 x2 y2 d1 d2 n1 n2 l1 l2 o1 o3 o8 o9 o10 o11 o12 o13 o14 o15 o16 o17 o18 o19 h pl hc w1 q
  refine ⟨_, rfl, _, rfl, p, cc, x1, d1, _, _, rfl, pl, hc, h.lo.one, w1.oned, h.lo.ls.tabs.ext wo_sub, fun H' e t => ⟨_, rfl, iteF (q H' t ?_)⟩⟩
  exact sqL_same wo_sub (sqL_ext e h.lo.ls.script)
end
end DR

namespace DR
open PySem PySem.Spec PyProof.Rows L2
section
variable {P : Program} {w : World} {K : PySem.W.Frag} {mg : Str → Option Value} {base : Heap} {CS CN CW f : Addr} {c : Value} {T' : List (Addr × Str)} {A : Around} {outer : List Env} {s : Shared} {H0 : Hp} {E : XK}
theorem law_go (L : TL P w K mg base CS CN CW T') (hr : Room 18 (XL P w K mg base f c A outer s H0 E).A) (hg : (XL P w K mg base f c A outer s H0 E).A.guards = some []) : ∃ t, PSs (XL P w K mg base f c A outer s H0 E) (defBody sLaw) t ∧ ∀ (H : Hp) (sc : Addr) (ns : List Int) (Q : VK), SqL K H sc (ns.map V.int) → LamX.Tabs T' H → (∀ H', Q (.bl true) H') →
      t { nx := fun _ H' => Q .non H', rt := Q } (start NL [.ref sc]) H := by
  obtain ⟨t0, h0, q0⟩ := s0 (P := P) (w := w) (K := K) (mg := mg) (base := base) (T' := T') (E := E) (A := A) (outer := outer) (s := s) (H0 := H0) (f := f) (c := c) L hr
  obtain ⟨t1, h1, q1⟩ := s1 (P := P) (w := w) (K := K) (mg := mg) (base := base) (T' := T') (E := E) (A := A) (outer := outer) (s := s) (H0 := H0) (f := f) (c := c) L hr
  obtain ⟨t2, h2, q2⟩ := s2 (P := P) (w := w) (K := K) (mg := mg) (base := base) (T' := T') (E := E) (A := A) (outer := outer) (s := s) (H0 := H0) (f := f) (c := c) L hr
  obtain ⟨t3, h3, q3⟩ := s3 (P := P) (w := w) (K := K) (mg := mg) (base := base) (T' := T') (E := E) (A := A) (outer := outer) (s := s) (H0 := H0) (f := f) (c := c) L hr
  obtain ⟨t4, h4, q4⟩ := s4 (P := P) (w := w) (K := K) (mg := mg) (base := base) (T' := T') (E := E) (A := A) (outer := outer) (s := s) (H0 := H0) (f := f) (c := c) L hr hg
  obtain ⟨t5, h5, q5⟩ := s5 (P := P) (w := w) (K := K) (mg := mg) (base := base) (T' := T') (E := E) (A := A) (outer := outer) (s := s) (H0 := H0) (f := f) (c := c) L hr
  obtain ⟨t6, h6, q6⟩ := s6 (P := P) (w := w) (K := K) (mg := mg) (base := base) (T' := T') (E := E) (A := A) (outer := outer) (s := s) (H0 := H0) (f := f) (c := c) L hr
  obtain ⟨t7, h7, q7⟩ := s7 (P := P) (w := w) (K := K) (mg := mg) (base := base) (T' := T') (E := E) (A := A) (outer := outer) (s := s) (H0 := H0) (f := f) (c := c) L hr
  obtain ⟨t8, h8, q8⟩ := s8 (P := P) (w := w) (K := K) (mg := mg) (base := base) (T' := T') (E := E) (A := A) (outer := outer) (s := s) (H0 := H0) (f := f) (c := c)
  obtain ⟨t9, h9, q9⟩ := s9 (P := P) (w := w) (K := K) (mg := mg) (base := base) (T' := T') (E := E) (A := A) (outer := outer) (s := s) (H0 := H0) (f := f) (c := c) L hr
  obtain ⟨t10, h10, q10⟩ := s10 (P := P) (w := w) (K := K) (mg := mg) (base := base) (T' := T') (E := E) (A := A) (outer := outer) (s := s) (H0 := H0) (f := f) (c := c) L hr
  obtain ⟨t11, h11, q11⟩ := s11 (P := P) (w := w) (K := K) (mg := mg) (base := base) (T' := T') (E := E) (A := A) (outer := outer) (s := s) (H0 := H0) (f := f) (c := c) L hr
  obtain ⟨t12, h12, q12⟩ := s12 (P := P) (w := w) (K := K) (mg := mg) (base := base) (T' := T') (E := E) (A := A) (outer := outer) (s := s) (H0 := H0) (f := f) (c := c) L hr hg
  obtain ⟨t13, h13, q13⟩ := s13 (P := P) (w := w) (K := K) (mg := mg) (base := base) (T' := T') (E := E) (A := A) (outer := outer) (s := s) (H0 := H0) (f := f) (c := c)
  obtain ⟨t14, h14, q14⟩ := s14 (P := P) (w := w) (K := K) (mg := mg) (base := base) (T' := T') (E := E) (A := A) (outer := outer) (s := s) (H0 := H0) (f := f) (c := c) L hr
  obtain ⟨t15, h15, q15⟩ := s15 (P := P) (w := w) (K := K) (mg := mg) (base := base) (T' := T') (E := E) (A := A) (outer := outer) (s := s) (H0 := H0) (f := f) (c := c) L hr
  obtain ⟨t16, h16, q16⟩ := s16 (P := P) (w := w) (K := K) (mg := mg) (base := base) (T' := T') (E := E) (A := A) (outer := outer) (s := s) (H0 := H0) (f := f) (c := c) L hr
  obtain ⟨t17, h17, q17⟩ := s17 (P := P) (w := w) (K := K) (mg := mg) (base := base) (T' := T') (E := E) (A := A) (outer := outer) (s := s) (H0 := H0) (f := f) (c := c) L hr
  obtain ⟨t18, h18, q18⟩ := s18 (P := P) (w := w) (K := K) (mg := mg) (base := base) (T' := T') (E := E) (A := A) (outer := outer) (s := s) (H0 := H0) (f := f) (c := c) L hr
  refine ⟨_, pss_cons (ps_for (passes_of rfl) rfl (pi_range1 (by rfl) L.r.bi.range (pa_cons pe_int pa_nil)) (pg_name (i := 1) scLaw.nd rfl (.inl rfl)) (pss_cons h0 (pss_cons h1 (pss_cons h2 (pss_cons h3 (pss_cons h4 (pss_cons h5 (pss_cons h6 (pss_cons h7 (pss_cons h8 (pss_cons h9 (pss_cons h10 (pss_cons h11 (pss_cons h12 (pss_cons h13 (pss_cons h14 (pss_cons h15 (pss_cons h16 (pss_cons h17 (pss_one h18)))))))))))))))))))) (pss_one (ps_ret pe_bl)), ?_⟩
  intro H sc ns Q hs hT q
  refine ⟨6, rfl, by decide, by decide, ?_⟩
  refine for_it walk_range (fun i σ H4 => ∃ (o1 o2 o3 o4 o5 o6 o7 o8 o9 o10 o11 o12 o13 o14 o15 o16 o17 o18 o19 : Option V), σ = sgl sc o1 o2 o3 o4 o5 o6 o7 o8 o9 o10 o11 o12 o13 o14 o15 o16 o17 o18 o19 ∧ SqL K H4 sc (ns.map V.int) ∧ LamX.Tabs T' H4)
    ⟨none, none, none, none, none, none, none, none, none, none, none, none, none, none, none, none, none, none, none, rfl, hs, hT⟩ (fun _ _ _ _ _ => trivial) ?_ ?_
  · rintro i x σ Ha Hb hi ⟨o1, o2, o3, o4, o5, o6, o7, o8, o9, o10, o11, o12, o13, o14, o15, o16, o17, o18, o19, rfl, hs4, hT4⟩ ⟨rfl, rfl⟩
    have ez : (0 : Int) + (i : Int) = (i : Int) := by omega
    show (tSeq t0 _) _ (sgl sc (some (.int (0 + (i : Int)))) o2 o3 o4 o5 o6 o7 o8 o9 o10 o11 o12 o13 o14 o15 o16 o17 o18 o19) _
    rw [ez]
    refine q0 _ _ sc ns i _ _ _ _ _ _ _ _ _ _ _ _ _ _ _ _ _ _ ⟨hT4, hs4⟩ fun H1 p ls1 pl1 => ?_
    refine q1 _ H1 sc p ns 0 _ _ _ _ _ _ _ _ _ _ _ _ _ _ _ _ _ _ ls1 pl1 (by decide) fun H2 n1 ls2 pl2 hn1 => ?_
    refine q2 _ H2 sc p ns 1 n1 _ _ _ _ _ _ _ _ _ _ _ _ _ _ _ _ _ ls2 pl2 (by decide) hn1 fun H3 x1 y1 d1 l1 c3 lo3 w1 pl3 hc3 => ?_
    refine q3 _ H3 sc p ns c3 x1 y1 d1 n1 l1 _ _ _ _ _ _ _ _ _ _ _ _ _ _ _ _ _ _ lo3 pl3 (by omega) fun H4 x2 y2 d2 n2 l2 c4 two4 w2 pl4 hc4 => ?_
    refine q4 _ H4 sc p ns c4 x1 y1 x2 y2 d1 d2 n1 n2 l1 l2 _ _ _ _ _ _ _ _ _ _ _ _ _ _ two4 w1 w2 pl4 (by omega) fun H5 m two5 pl5 hm => ?_
    refine q5 _ H5 sc p ns x1 y1 x2 y2 d1 d2 n1 n2 l1 l2 m _ _ _ _ _ _ _ _ _ _ _ _ _ two5 w1 w2 hm fun H6 F e6 hF => ?_
    have two6 := two5.same (wo_mono (p := p) e6)
    have pl6 := pool_same e6 pl5
    refine q6 _ H6 sc p ns x1 y1 x2 y2 d1 d2 n1 n2 l1 l2 m _ _ _ _ _ _ _ _ _ _ _ _ _ two6 w1 w2 hm fun H7 U us e7 hU hus => ?_
    have two7 := two6.same (wo_mono (p := p) e7)
    have pl7 := pool_same e7 pl6
    refine q7 _ H7 sc p F U ns x1 y1 x2 y2 d1 d2 n1 n2 l1 l2 m us _ _ _ _ _ _ _ _ _ _ _ two7 w1 w2 (dp_same e7 hF) hU hus fun H8 e8 => ?_
    have two8 := two7.same (wo_mono (p := p) e8)
    have pl8 := pool_same e8 pl7
    refine q8 _ H8 sc p ns _ x1 y1 x2 y2 d1 d2 n1 n2 l1 l2 _ _ _ _ _ _ _ _ _ _ _ _ _ _ two8 pl8 fun H9 W wl9 pl9 => ?_
    refine q9 _ H9 sc p W ns _ x1 y1 x2 y2 d1 d2 n1 n2 l1 l2 _ _ _ _ _ _ _ _ _ _ _ _ _ wl9 pl9 (by omega) fun H10 o12' kvs gs c10 wl10 sub pl10 hc10 => ?_
    have gok := gs_ok wl10.each sub
    refine q10 _ H10 sc p W ns 0 x1 y1 x2 y2 d1 d2 n1 n2 l1 l2 kvs gs _ _ _ _ _ _ _ _ _ _ _ _ _ wl10 sub (fun g hg' => (gok g hg').1) fun H11 N kvz e11 hN kz each first => ?_
    have wl11 := wl10.same e11
    have pl11 := pool_same e11 pl10
    refine q11 _ H11 sc p W ns 0 x1 y1 x2 y2 d1 d2 n1 n2 l1 l2 kvs gs _ _ _ _ _ _ _ _ _ _ _ _ _ wl11 sub fun H12 O vs e12 hO hvs subg => ?_
    have wl12 := wl11.same e12
    have pl12 := pool_same e12 pl11
    refine q12 _ H12 sc p W N O ns x1 y1 x2 y2 d1 d2 n1 n2 l1 l2 kvs gs kvz vs _ _ _ _ _ _ _ _ _ _ wl12 sub w1 w2 (e12 _ _ hN) kz (eachs_imp (fun _ _ => wr_same e12) each) first hO hvs subg fun H13 e13 => ?_
    have two13 := (wl12.same e13).two.same wo_sub
    have pl13 := pool_same e13 pl12
    refine q13 _ H13 sc p ns x1 y1 x2 y2 d1 d2 n1 n2 l1 l2 _ _ _ _ _ _ _ _ _ _ _ _ _ _ two13 fun H14 So xs e14 hSo hxs => ?_
    have two14 := two13.same (wo_mono (p := p) e14)
    have pl14 := pool_same e14 pl13
    refine q14 _ H14 sc p So ns x1 y1 x2 y2 d1 d2 n1 n2 l1 l2 xs _ _ _ _ _ _ _ _ _ _ _ _ _ w1.ok w2.ok hSo hxs fun H15 e15 => ?_
    have two15 := two14.same (wo_mono (p := p) e15)
    have pl15 := pool_same e15 pl14
    refine q15 _ H15 sc p ns _ x1 y1 x2 y2 d1 d2 n1 n2 l1 l2 _ _ _ _ _ _ _ _ _ _ _ _ _ _ two15 pl15 (by omega) fun H16 k two16 pl16 => ?_
    refine q16 _ H16 sc p k x1 y1 x2 y2 _ _ _ _ _ _ _ _ _ _ _ _ _ fun H17 v e17 hv => ?_
    have two17 := two16.same (wo_mono (p := p) e17)
    have pl17 := pool_same e17 pl16
    refine q17 _ H17 sc p ns k v x1 y1 x2 y2 d1 d2 n1 n2 l1 l2 _ _ _ _ _ _ _ _ _ _ _ _ two17 w1 hv fun H18 e18 => ?_
    have two18 := two17.same (wo_mono (p := p) e18)
    have pl18 := pool_same e18 pl17
    refine q18 _ H18 sc p ns _ x1 y1 x2 y2 d1 d2 n1 n2 l1 l2 _ _ _ _ _ _ _ _ _ _ _ _ _ _ two18 pl18 (by omega) w1 fun H19 t19 s19 => ?_
    exact ⟨_, _, _, _, _, _, _, _, _, _, _, _, _, _, _, _, _, _, _, rfl, s19, t19⟩
  · rintro σ H4 ⟨o1, o2, o3, o4, o5, o6, o7, o8, o9, o10, o11, o12, o13, o14, o15, o16, o17, o18, o19, rfl, _, _⟩
    exact q H4
end
end DR

namespace DR
open PySem PySem.Spec PyProof.Rows L2
/-! ### the law's call, at the very caller -/
theorem law_here {P : Program} {w : World} {K : PySem.W.Frag} {mg : Str → Option Value} {base : Heap} {CS CN CW f : Addr} {fd : FuncData} {T' : List (Addr × Str)} {s : Shared} {H : Hp} {a : Addr} {ns : List Int} (F : Fun K "law" "law" sLaw f fd) (L : TL P w K mg base CS CN CW T') (hr : Room 19 callerA) (e0 : Env0 P w K mg base callerA [] s H)
    (hs : SqL K H a (ns.map V.int)) (hT : LamX.Tabs T' H) : codeAny (model P w) callerA (.call (.ref f) ⟨[.ref a], []⟩) (CR (L2.CX P w) [] P w H s (fun v _ => v = .bl true) fun _ _ _ => False) s := by
  have hb := F.binds (ps := ["script"]) fun _ _ _ _ _ _ us hl => match us, hl with | [_], _ => rfl
  have KX : K.In s.heap := e0.mod.kin.keeps fun b o e => (e0.bs b o e).1
  obtain ⟨oc, od, kV, doc, pm, an, cdv, ct, osl, rfl, lk, hcd⟩ := F.ex
  refine LamX.run_ofS (k := 18) (N := NL) (ps := ["script"]) (us := [.ref a]) (vs := [.ref a]) lk hcd scLaw hr e0 (hb s [.ref a] KX rfl) (.cons rfl .nil) rfl fun hr' => ?_
  obtain ⟨t, h1, h2⟩ := law_go (s := s) (H0 := H) (A := callerA) (outer := []) (f := f) (c := cdv) (E := fun _ _ _ => False) L hr' rfl
  exact ⟨t, h1, h2 H a ns (fun v _ => v = V.bl true) hs hT fun _ => rfl⟩
end DR

namespace DR
open PySem PySem.Spec PyProof.Rows L2
/-! ### the head: what the top leaves -/
def dd (x : Str) (i : Nat) : He.DefD := ⟨(x, none), x, x, defArgs (topS i), defBody (topS i), defScope (topS i), [], []⟩
def fns : List He.DefD := [dd "is_integer" 7, dd "is_row" 8, dd "is_row_of" 9, dd "is_name" 10, dd "read_unknown" 13, dd "order_of" 14, dd "one_form" 15, dd "read_sum" 16, dd "sum_of" 17, dd "with_times" 18, dd "plus" 19, dd "minus" 20, dd "times" 21, dd "read_worths" 22, dd "with_worths" 23, dd "put_in" 24, dd "unknowns" 25, dd "address_in" 26, dd "address_of" 27, dd "_law_cell" 29, dd "_law_pool" 30, dd "_law_take" 31, dd "_law_one" 32, dd "_law_mixed" 33, dd "_law_key" 34, dd "_law_total" 35, dd "_law_added" 36, dd "_law_address" 37, dd "_law_pairs" 38, dd "_law_loose" 39, dd "_law_met" 40, dd "_law_put" 41, dd "_law_refused_right" 42, dd "law" 43, ⟨("BadSum", some "__init__"), "__init__", "BadSum.__init__", defArgs sIniS, defBody sIniS, defScope sIniS, [], []⟩, ⟨("BadNumber", some "__init__"), "__init__", "BadNumber.__init__", defArgs sIniN, defBody sIniN, defScope sIniN, [], []⟩, ⟨("BadWorths", some "__init__"), "__init__", "BadWorths.__init__", defArgs sIniW, defBody sIniW, defScope sIniW, [], []⟩]
def fas : List He.Fa := [.glo "is_integer", .glo "is_row", .glo "is_row_of", .glo "is_name", .glo "read_unknown", .glo "order_of", .glo "one_form", .glo "read_sum", .glo "sum_of", .glo "with_times", .glo "plus", .glo "minus", .glo "times", .glo "read_worths", .glo "with_worths", .glo "put_in", .glo "unknowns", .glo "address_in", .glo "address_of", .glo "_law_cell", .glo "_law_pool", .glo "_law_take", .glo "_law_one", .glo "_law_mixed", .glo "_law_key", .glo "_law_total", .glo "_law_added", .glo "_law_address", .glo "_law_pairs", .glo "_law_loose", .glo "_law_met", .glo "_law_put", .glo "_law_refused_right", .glo "law", .glo "BadSum", .glo "BadNumber", .glo "BadWorths", .glo "RANKS", .free "len", .free "int", .free "str", .free "bool", .free "list", .free "tuple", .free "isinstance", .free "all", .free "sorted", .free "range", .free "enumerate", .free "zip", .free "dict", .free "min", .free "set", .free "repr", .str "LETTERS" lettersS, .exm "BadSum" "BadSum" true, .noat "BadSum" "thing", .meth "BadSum" "__init__", .exm "BadNumber" "BadNumber" true, .noat "BadNumber" "number", .meth "BadNumber" "__init__", .exm "BadWorths" "BadWorths" true, .noat "BadWorths" "key", .meth "BadWorths" "__init__", .exm "BadNumber" "BadSum" false, .exm "BadWorths" "BadSum" false, .exm "BadWorths" "BadNumber" false]
def tabs : List He.Tab := [(fun K => He.ga K "RANKS", ["piece", "name", "in"])]
def tfs : List He.Defn := [("_law_refused_right", none)]
/-- an own error class over ValueError -/
def oexB (K : PySem.W.Frag) (C : Addr) : Bool := (match K.lookup C with
  | some ⟨.type c, _, .cls z, sl⟩ => decide (c = "type") && (match z.mro, sl.toList with
    | .ref C1 :: m1, [_, _, _, _, some (.builtin b1), _] => decide (C1 = C) && (decide (b1 = "ValueError.__new__") && (!z.hasDel && (z.hasDict && PySem.HandSPX.refsVE m1)))
    | _, _ => false)
  | _ => false) && (He.eqO (PySem.W.findIn K (.ref C) "__setattr__") (some (some (.builtin "object.__setattr__"))) && (decide (PySem.W.subIn K (.ref C) (.type "BaseException") = some true) && (decide (PySem.W.typeIn K (.ref C) = some (.type "type")) && PySem.W.keepIn K (.ref C))))
def ranksL : List (Str × He.Dv) := [("piece", .int 0), ("name", .int 1), ("in", .int 2)]
def exs (K : PySem.W.Frag) : Bool := oexB K (He.ga K "BadSum") && (xfB K (He.ga K "BadSum") && (oexB K (He.ga K "BadNumber") && (xfB K (He.ga K "BadNumber") && (oexB K (He.ga K "BadWorths") && (xfB K (He.ga K "BadWorths") && (He.valsB K (He.ga K "RANKS") ranksL))))))
abbrev RR : PySem.W.OpenRow := PySem.W.OpenLaw.row PySem.Challenge.rw_loadanywhere_k01_sums_told
abbrev hkk : PySem.W.Hook := He.hookX 5 fas fns tabs tfs exs
def obb (s : PySem.W.SharedT) : He.AlX := He.obsX 5 fas fns tabs tfs exs (HandSHeadRun.getT s)
theorem obb_eq (s : PySem.W.SharedT) : obb s = hkk.obs s.abs := He.obsX_eq (HandSHeadRun.getT_eq s)
abbrev loosL : List Str := (["WordError", "BadSum", "BadNumber", "BadWorths", "LETTERS", "is_integer", "is_row", "is_row_of", "is_name", "RANKS", "read_unknown", "order_of", "one_form", "read_sum", "sum_of", "with_times", "plus", "minus", "times", "read_worths", "with_worths", "put_in", "unknowns", "address_in", "address_of", "_law_cell", "_law_pool", "_law_take", "_law_one", "_law_mixed"] : List Str) ++ (["_law_key", "_law_total", "_law_added", "_law_address", "_law_pairs", "_law_loose", "_law_met", "_law_put", "_law_refused_right"] : List Str)
theorem run_false (w : World) : HandSHeadRun.RunEq RR (PySem.W.view RR.prog [43]) hkk obb 6000 loosL (w.withFollow "special-get-raises" false) := by
  intro os
  kernel_rfl
theorem run_true (w : World) : HandSHeadRun.RunEq RR (PySem.W.view RR.prog [43]) hkk obb 6000 loosL (w.withFollow "special-get-raises" true) := by
  intro os
  kernel_rfl
theorem runL (w : World) : HandSHeadRun.RunEq RR (PySem.W.view RR.prog [43]) hkk obb 6000 loosL w :=
  PySem.W.byRow2 "special-get-raises" (P := fun w => HandSHeadRun.RunEq RR (PySem.W.view RR.prog [43]) hkk obb 6000 loosL w) run_false run_true w
end DR

namespace DR
open PySem PySem.Spec PyProof.Rows L2
/-! ### the facts -/
theorem bb {a b : Bool} (h : (a && b) = true) : a = true ∧ b = true := by simpa using h
theorem oexB_ok {K : PySem.W.Frag} {C : Addr} (h : oexB K C = true) : OexC K C := by
  unfold oexB at h
  obtain ⟨h1, h⟩ := bb h
  obtain ⟨h2, h⟩ := bb h
  obtain ⟨h3, h⟩ := bb h
  obtain ⟨h4, h5⟩ := bb h
  refine ⟨?_, He.eqO_ok h2, of_decide_eq_true h3, of_decide_eq_true h4, h5⟩
  split at h1
  · rename_i cn od z sl hl
    obtain ⟨h6, h7⟩ := bb h1
    obtain rfl := of_decide_eq_true h6
    split at h7
    · rename_i C1 m1 k0 k1 k2 k3 b1 k5 hm hs
      obtain ⟨h8, h7⟩ := bb h7
      obtain ⟨h9, h7⟩ := bb h7
      obtain ⟨ha, h7⟩ := bb h7
      obtain ⟨hb, hc⟩ := bb h7
      obtain rfl := of_decide_eq_true h8
      obtain rfl := of_decide_eq_true h9
      obtain ⟨z1, z2, z3, z4, z5, z6, z7, z8, z9, za, zb⟩ := z
      dsimp only at hm ha hb
      subst hm
      have ha2 : zb = false := by simpa using ha
      subst ha2
      subst hb
      have hsl : sl = #[k0, k1, k2, k3, some (.builtin "ValueError.__new__"), k5] := by
        obtain ⟨l⟩ := sl
        simp only at hs
        rw [hs]
      rw [hsl] at hl
      exact ⟨_, _, _, _, _, _, _, _, _, _, _, _, _, _, _, hl, hc⟩
    · cases h7
  · cases h1
theorem fun_of {K : PySem.W.Frag} {x q : Str} {st : Stmt} {f : Addr} {fd : FuncData} (F : FunD K x q (defArgs st) (defBody st) (defScope st) [] [] f fd) : Fun K x q st f fd := by
  obtain ⟨oc, od, dV, kV, doc, pm, an, cdv, ct, osl, e, lk, hc, hD, hK⟩ := F.ex
  rcases hD with ⟨_, rfl⟩ | ⟨z, _⟩
  · exact ⟨⟨oc, od, kV, doc, pm, an, cdv, ct, osl, e, lk, hc⟩, F.kp⟩
  · exact absurd rfl z
theorem funC_of {K : PySem.W.Frag} {x : Str} {st : Stmt} {p : Str × Option Str} {fd : FuncData} (F : FunD K x x (defArgs st) (defBody st) (defScope st) [] [] (He.fAd K p) fd) : FunC K x st (He.cT K p).1 (He.fAd K p) fd := by
  obtain ⟨oc, od, dV, kV, doc, pm, an, cdv, ct, osl, e, lk, hc, hD, hK⟩ := F.ex
  rcases hD with ⟨_, rfl⟩ | ⟨z, _⟩
  · obtain ⟨c, rfl⟩ := He.codeIn_ref hc
    have ec : (He.cT K p).1 = c := He.codeOf_eq lk (by rw [e])
    rw [ec]
    exact ⟨⟨oc, od, kV, doc, pm, an, ct, osl, e, lk, hc⟩, F.kp⟩
  · exact absurd rfl z
theorem has_of {P : Program} {w : World} {K : PySem.W.Frag} {mg : Str → Option Value} {base : Heap} {CX : CXT} {k : Nat} {x : Str} {ps : List Str} {sp : Sp} {f : Addr} {fd : FuncData} (g : mg x = some (.ref f)) (kp : PySem.W.keepIn K (.ref f) = true) (b : Binds K fd ps []) (o : FnOk P w K mg base CX k f fd ps sp) : Has P w K mg base CX k x ps sp :=
  ⟨⟨f, fd, g, kp, b, o⟩⟩
theorem keys_find {P : Params} {z : Str} : ∀ {l : List DictEntry} {ks : List Str}, l.map He.keyOf = He.keysIn P ks → z ∉ ks → l.find? (·.key.isStr z) = none ∧ l.any (·.refKey) = false
  | [], _, _, _ => ⟨rfl, rfl⟩
  | e :: r, [], h, _ => by cases h
  | e :: r, k :: ks, h, hz => by
    have h1 : He.keyOf e :: r.map He.keyOf = some (k, PyData.keyHash P k) :: He.keysIn P ks := h
    injection h1 with h2 h3
    obtain ⟨i1, i2⟩ := keys_find h3 (fun m => hz (List.mem_cons_of_mem _ m))
    obtain ⟨eh, ek, ev⟩ := e
    unfold He.keyOf at h2
    dsimp only at h2
    cases ek with
    | str x t =>
      have h4 : (x, eh) = (k, PyData.keyHash P k) := Option.some.inj h2
      have h5 : x = k := congrArg Prod.fst h4
      subst h5
      have nz : (x == z) = false := by
        rw [beq_eq_false_iff_ne]
        intro q
        exact hz (by rw [← q]; exact List.mem_cons_self ..)
      constructor
      · rw [List.find?_cons]
        have e1 : Value.isStr (.str x t) z = false := nz
        show (match Value.isStr (.str x t) z with | true => some _ | false => r.find? _) = none
        rw [e1]
        exact i1
      · rw [List.any_cons, i2]
        rfl
    | _ => cases h2
theorem ns_no {K : PySem.W.Frag} {w : World} {a : Addr} {ks : List Str} (h : He.dicW K a = some (He.keysIn w.params ks)) {z : Str} (hz : z ∉ ks) : PySem.W.nsIn K a z = some none := by
  unfold He.dicW at h
  cases q : K.lookup a with
  | none => rw [q] at h; cases h
  | some o =>
    obtain ⟨oc, od, dt, osl⟩ := o
    rw [q] at h
    cases oc with
    | type c =>
      cases od with
      | none =>
        cases dt with
        | dict es n =>
          have h1 : (match decide (c = "dict") && (osl.isEmpty && !(a == sysModules)) with
            | true => some (es.toList.map He.keyOf)
            | false => none) = some (He.keysIn w.params ks) := h
          split at h1
          · obtain ⟨f1, f2⟩ := keys_find (Option.some.inj h1) hz
            unfold PySem.W.nsIn
            rw [q]
            dsimp only
            rw [f1, f2]
            rfl
          · cases h1
        | _ => cases h
      | some b => cases dt <;> cases h
    | _ => cases od <;> cases dt <;> cases h
theorem rank_some {z : Str} {i : Int} (h : rank z = some i) : (z, He.Dv.int i) ∈ ranksL := by
  unfold rank at h
  split at h
  · rename_i e; cases h; rw [e]; exact List.mem_cons_self ..
  · split at h
    · rename_i e; cases h; rw [e]; exact List.mem_cons_of_mem _ (List.mem_cons_self ..)
    · split at h
      · rename_i e; cases h; rw [e]; exact List.mem_cons_of_mem _ (List.mem_cons_of_mem _ (List.mem_cons_self ..))
      · cases h
theorem rank_none {z : Str} (h : rank z = none) : z ∉ (["piece", "name", "in"] : List Str) := by
  unfold rank at h
  split at h
  · cases h
  · split at h
    · cases h
    · split at h
      · cases h
      · rename_i a b c
        intro m
        rcases List.mem_cons.mp m with m | m
        · exact a m
        · rcases List.mem_cons.mp m with m | m
          · exact b m
          · exact c (List.mem_singleton.mp m)
section
variable {w : World} {K : PySem.W.Frag} {mg : Str → Option Value} {h : Heap}
theorem dics_of (c : He.SaysX fas fns tabs tfs exs w h K) : He.dicW K (He.ga K "RANKS") = some (He.keysIn w.params ["piece", "name", "in"]) := by
  have e : tabs.map (fun t => He.dicW K (t.1 K)) = tabs.map fun t => some (He.keysIn w.params t.2) := congrArg (fun z : He.AlT => z.2) c.t
  have z : [He.dicW K (He.ga K "RANKS")] = [some (He.keysIn w.params ["piece", "name", "in"])] := e
  injection z with z1 z
theorem ranks_of (X : K.In h) (G : h.Ns mainGlobals mg) (c : He.SaysX fas fns tabs tfs exs w h K) (v : He.valsB K (He.ga K "RANKS") ranksL = true) : Ranks K w mg (He.ga K "RANKS") := by
  have e2 := dics_of c
  refine ⟨He.glo_ok X G (c.t.d.fact 37 (f := .glo "RANKS") rfl), He.dicW_ok e2, fun z i hz => ?_, fun z hz => ns_no e2 (rank_none hz)⟩
  obtain ⟨u, h1, h2⟩ := He.valsB_ok v (rank_some hz)
  obtain ⟨t, rfl⟩ := (show ∃ t, u = Value.int i t from h2)
  exact ⟨t, h1⟩
theorem bi_of (X : K.In h) (G : h.Ns mainGlobals mg) (c : He.SaysD fas fns K) : Bi mg :=
  ⟨He.free_ok X G (c.fact 38 (f := .free "len") rfl), He.free_ok X G (c.fact 39 (f := .free "int") rfl), He.free_ok X G (c.fact 40 (f := .free "str") rfl), He.free_ok X G (c.fact 41 (f := .free "bool") rfl), He.free_ok X G (c.fact 42 (f := .free "list") rfl), He.free_ok X G (c.fact 43 (f := .free "tuple") rfl), He.free_ok X G (c.fact 44 (f := .free "isinstance") rfl), He.free_ok X G (c.fact 45 (f := .free "all") rfl), He.free_ok X G (c.fact 46 (f := .free "sorted") rfl), He.free_ok X G (c.fact 47 (f := .free "range") rfl), He.free_ok X G (c.fact 48 (f := .free "enumerate") rfl), He.free_ok X G (c.fact 49 (f := .free "zip") rfl), He.free_ok X G (c.fact 50 (f := .free "dict") rfl), He.free_ok X G (c.fact 51 (f := .free "min") rfl), He.free_ok X G (c.fact 52 (f := .free "set") rfl)⟩
end
abbrev cR (K : PySem.W.Frag) : Addr × Addr := He.cT K ("_law_refused_right", none)
abbrev TT (K : PySem.W.Frag) : List (Addr × Str) := [((cR K).2, qRef)]
theorem facts {P : Program} {w : World} {K : PySem.W.Frag} {mg : Str → Option Value} {h : Heap} (X : K.In h) (G : h.Ns mainGlobals mg) (c : He.SaysX fas fns tabs tfs exs w h K) :
    ∃ fd : FuncData, Fun K "law" "law" sLaw (He.ga K "law") fd ∧ ∀ base : Heap, K.In base → base.Ns mainGlobals mg → LamX.TabB base mg (cR K).1 (cR K).2 →
      TL P w K mg base (He.ga K "BadSum") (He.ga K "BadNumber") (He.ga K "BadWorths") (TT K) := by
  obtain ⟨x1, hx⟩ := bb c.more
  obtain ⟨x2, hx⟩ := bb hx
  obtain ⟨x3, hx⟩ := bb hx
  obtain ⟨x4, hx⟩ := bb hx
  obtain ⟨x5, hx⟩ := bb hx
  obtain ⟨x6, x7⟩ := bb hx
  have T := bi_of X G c.t.d
  have R := ranks_of X G c x7
  obtain ⟨tLet, gLet⟩ := He.str_ok X G (c.t.d.fact 54 (f := .str "LETTERS" lettersS) rfl)
  have TRep : mg "repr" = none := He.free_ok X G (c.t.d.fact 53 (f := .free "repr") rfl)
  have gS : mg "BadSum" = some (.ref (He.ga K "BadSum")) := He.glo_ok X G (c.t.d.fact 34 (f := .glo "BadSum") rfl)
  have gN : mg "BadNumber" = some (.ref (He.ga K "BadNumber")) := He.glo_ok X G (c.t.d.fact 35 (f := .glo "BadNumber") rfl)
  have gW : mg "BadWorths" = some (.ref (He.ga K "BadWorths")) := He.glo_ok X G (c.t.d.fact 36 (f := .glo "BadWorths") rfl)
  have eS := He.exm_ok (c.t.d.fact 55 (f := .exm "BadSum" "BadSum" true) rfl)
  have nS := He.noat_ok (c.t.d.fact 56 (f := .noat "BadSum" "thing") rfl)
  have mS := He.meth_ok (c.t.d.fact 57 (f := .meth "BadSum" "__init__") rfl)
  have OS := oexB_ok x1
  have XS := xfB_ok x2
  have eN := He.exm_ok (c.t.d.fact 58 (f := .exm "BadNumber" "BadNumber" true) rfl)
  have nN := He.noat_ok (c.t.d.fact 59 (f := .noat "BadNumber" "number") rfl)
  have mN := He.meth_ok (c.t.d.fact 60 (f := .meth "BadNumber" "__init__") rfl)
  have ON := oexB_ok x3
  have XN := xfB_ok x4
  have eW := He.exm_ok (c.t.d.fact 61 (f := .exm "BadWorths" "BadWorths" true) rfl)
  have nW := He.noat_ok (c.t.d.fact 62 (f := .noat "BadWorths" "key") rfl)
  have mW := He.meth_ok (c.t.d.fact 63 (f := .meth "BadWorths" "__init__") rfl)
  have OW := oexB_ok x5
  have XW := xfB_ok x6
  have oNS := He.exm_ok (c.t.d.fact 64 (f := .exm "BadNumber" "BadSum" false) rfl)
  have oWS := He.exm_ok (c.t.d.fact 65 (f := .exm "BadWorths" "BadSum" false) rfl)
  have oWN := He.exm_ok (c.t.d.fact 66 (f := .exm "BadWorths" "BadNumber" false) rfl)
  obtain ⟨d0, D0⟩ := c.t.d.def_ 0 (d := dd "is_integer" 7) rfl
  have F0 : Fun K "is_integer" "is_integer" sIsInt (He.ga K "is_integer") d0 := fun_of D0
  have g0 : mg "is_integer" = some (.ref (He.ga K "is_integer")) := He.glo_ok X G (c.t.d.fact 0 (f := .glo "is_integer") rfl)
  have b0 : Binds K d0 ["thing"] [] := F0.binds fun _ _ _ _ _ _ us hl => match us, hl with | [_], _ => rfl
  obtain ⟨d1, D1⟩ := c.t.d.def_ 1 (d := dd "is_row" 8) rfl
  have F1 : Fun K "is_row" "is_row" sIsRow (He.ga K "is_row") d1 := fun_of D1
  have g1 : mg "is_row" = some (.ref (He.ga K "is_row")) := He.glo_ok X G (c.t.d.fact 1 (f := .glo "is_row") rfl)
  have b1 : Binds K d1 ["thing"] [] := F1.binds fun _ _ _ _ _ _ us hl => match us, hl with | [_], _ => rfl
  obtain ⟨d2, D2⟩ := c.t.d.def_ 2 (d := dd "is_row_of" 9) rfl
  have F2 : Fun K "is_row_of" "is_row_of" sIsRowOf (He.ga K "is_row_of") d2 := fun_of D2
  have g2 : mg "is_row_of" = some (.ref (He.ga K "is_row_of")) := He.glo_ok X G (c.t.d.fact 2 (f := .glo "is_row_of") rfl)
  have b2 : Binds K d2 ["thing", "many"] [] := F2.binds fun _ _ _ _ _ _ us hl => match us, hl with | [_, _], _ => rfl
  obtain ⟨d3, D3⟩ := c.t.d.def_ 3 (d := dd "is_name" 10) rfl
  have F3 : Fun K "is_name" "is_name" sIsName (He.ga K "is_name") d3 := fun_of D3
  have g3 : mg "is_name" = some (.ref (He.ga K "is_name")) := He.glo_ok X G (c.t.d.fact 3 (f := .glo "is_name") rfl)
  have b3 : Binds K d3 ["thing"] [] := F3.binds fun _ _ _ _ _ _ us hl => match us, hl with | [_], _ => rfl
  obtain ⟨d4, D4⟩ := c.t.d.def_ 4 (d := dd "read_unknown" 13) rfl
  have F4 : Fun K "read_unknown" "read_unknown" sReadUnk (He.ga K "read_unknown") d4 := fun_of D4
  have g4 : mg "read_unknown" = some (.ref (He.ga K "read_unknown")) := He.glo_ok X G (c.t.d.fact 4 (f := .glo "read_unknown") rfl)
  have b4 : Binds K d4 ["thing"] [] := F4.binds fun _ _ _ _ _ _ us hl => match us, hl with | [_], _ => rfl
  obtain ⟨d5, D5⟩ := c.t.d.def_ 5 (d := dd "order_of" 14) rfl
  have F5 : Fun K "order_of" "order_of" sOrderOf (He.ga K "order_of") d5 := fun_of D5
  have g5 : mg "order_of" = some (.ref (He.ga K "order_of")) := He.glo_ok X G (c.t.d.fact 5 (f := .glo "order_of") rfl)
  have b5 : Binds K d5 ["unknown"] [] := F5.binds fun _ _ _ _ _ _ us hl => match us, hl with | [_], _ => rfl
  obtain ⟨d6, D6⟩ := c.t.d.def_ 6 (d := dd "one_form" 15) rfl
  have F6 : Fun K "one_form" "one_form" sOneForm (He.ga K "one_form") d6 := fun_of D6
  have g6 : mg "one_form" = some (.ref (He.ga K "one_form")) := He.glo_ok X G (c.t.d.fact 6 (f := .glo "one_form") rfl)
  have b6 : Binds K d6 ["number", "multiples"] [] := F6.binds fun _ _ _ _ _ _ us hl => match us, hl with | [_, _], _ => rfl
  obtain ⟨d7, D7⟩ := c.t.d.def_ 7 (d := dd "read_sum" 16) rfl
  have F7 : Fun K "read_sum" "read_sum" sReadSum (He.ga K "read_sum") d7 := fun_of D7
  have g7 : mg "read_sum" = some (.ref (He.ga K "read_sum")) := He.glo_ok X G (c.t.d.fact 7 (f := .glo "read_sum") rfl)
  have b7 : Binds K d7 ["thing"] [] := F7.binds fun _ _ _ _ _ _ us hl => match us, hl with | [_], _ => rfl
  obtain ⟨d8, D8⟩ := c.t.d.def_ 8 (d := dd "sum_of" 17) rfl
  have F8 : Fun K "sum_of" "sum_of" sSumOf (He.ga K "sum_of") d8 := fun_of D8
  have g8 : mg "sum_of" = some (.ref (He.ga K "sum_of")) := He.glo_ok X G (c.t.d.fact 8 (f := .glo "sum_of") rfl)
  have b8 : Binds K d8 ["thing"] [] := F8.binds fun _ _ _ _ _ _ us hl => match us, hl with | [_], _ => rfl
  obtain ⟨d9, D9⟩ := c.t.d.def_ 9 (d := dd "with_times" 18) rfl
  have F9 : Fun K "with_times" "with_times" sTimes (He.ga K "with_times") d9 := fun_of D9
  have g9 : mg "with_times" = some (.ref (He.ga K "with_times")) := He.glo_ok X G (c.t.d.fact 9 (f := .glo "with_times") rfl)
  have b9 : Binds K d9 ["one", "other", "many"] [] := F9.binds fun _ _ _ _ _ _ us hl => match us, hl with | [_, _, _], _ => rfl
  obtain ⟨d10, D10⟩ := c.t.d.def_ 10 (d := dd "plus" 19) rfl
  have F10 : Fun K "plus" "plus" sPlus (He.ga K "plus") d10 := fun_of D10
  have g10 : mg "plus" = some (.ref (He.ga K "plus")) := He.glo_ok X G (c.t.d.fact 10 (f := .glo "plus") rfl)
  have b10 : Binds K d10 ["one", "other"] [] := F10.binds fun _ _ _ _ _ _ us hl => match us, hl with | [_, _], _ => rfl
  obtain ⟨d11, D11⟩ := c.t.d.def_ 11 (d := dd "minus" 20) rfl
  have F11 : Fun K "minus" "minus" sMinus (He.ga K "minus") d11 := fun_of D11
  have g11 : mg "minus" = some (.ref (He.ga K "minus")) := He.glo_ok X G (c.t.d.fact 11 (f := .glo "minus") rfl)
  have b11 : Binds K d11 ["one", "other"] [] := F11.binds fun _ _ _ _ _ _ us hl => match us, hl with | [_, _], _ => rfl
  obtain ⟨d12, D12⟩ := c.t.d.def_ 12 (d := dd "times" 21) rfl
  have F12 : Fun K "times" "times" sMult (He.ga K "times") d12 := fun_of D12
  have g12 : mg "times" = some (.ref (He.ga K "times")) := He.glo_ok X G (c.t.d.fact 12 (f := .glo "times") rfl)
  have b12 : Binds K d12 ["one", "number"] [] := F12.binds fun _ _ _ _ _ _ us hl => match us, hl with | [_, _], _ => rfl
  obtain ⟨d13, D13⟩ := c.t.d.def_ 13 (d := dd "read_worths" 22) rfl
  have F13 : Fun K "read_worths" "read_worths" sReadW (He.ga K "read_worths") d13 := fun_of D13
  have g13 : mg "read_worths" = some (.ref (He.ga K "read_worths")) := He.glo_ok X G (c.t.d.fact 13 (f := .glo "read_worths") rfl)
  have b13 : Binds K d13 ["worths"] [] := F13.binds fun _ _ _ _ _ _ us hl => match us, hl with | [_], _ => rfl
  obtain ⟨d14, D14⟩ := c.t.d.def_ 14 (d := dd "with_worths" 23) rfl
  have F14 : Fun K "with_worths" "with_worths" sWith (He.ga K "with_worths") d14 := fun_of D14
  have g14 : mg "with_worths" = some (.ref (He.ga K "with_worths")) := He.glo_ok X G (c.t.d.fact 14 (f := .glo "with_worths") rfl)
  have b14 : Binds K d14 ["one", "worths"] [] := F14.binds fun _ _ _ _ _ _ us hl => match us, hl with | [_, _], _ => rfl
  obtain ⟨d15, D15⟩ := c.t.d.def_ 15 (d := dd "put_in" 24) rfl
  have F15 : Fun K "put_in" "put_in" sPutIn (He.ga K "put_in") d15 := fun_of D15
  have g15 : mg "put_in" = some (.ref (He.ga K "put_in")) := He.glo_ok X G (c.t.d.fact 15 (f := .glo "put_in") rfl)
  have b15 : Binds K d15 ["one", "worths"] [] := F15.binds fun _ _ _ _ _ _ us hl => match us, hl with | [_, _], _ => rfl
  obtain ⟨d16, D16⟩ := c.t.d.def_ 16 (d := dd "unknowns" 25) rfl
  have F16 : Fun K "unknowns" "unknowns" sUnks (He.ga K "unknowns") d16 := fun_of D16
  have g16 : mg "unknowns" = some (.ref (He.ga K "unknowns")) := He.glo_ok X G (c.t.d.fact 16 (f := .glo "unknowns") rfl)
  have b16 : Binds K d16 ["one"] [] := F16.binds fun _ _ _ _ _ _ us hl => match us, hl with | [_], _ => rfl
  obtain ⟨d17, D17⟩ := c.t.d.def_ 17 (d := dd "address_in" 26) rfl
  have F17 : Fun K "address_in" "address_in" sAddrIn (He.ga K "address_in") d17 := fun_of D17
  have g17 : mg "address_in" = some (.ref (He.ga K "address_in")) := He.glo_ok X G (c.t.d.fact 17 (f := .glo "address_in") rfl)
  have b17 : Binds K d17 ["one"] [] := F17.binds fun _ _ _ _ _ _ us hl => match us, hl with | [_], _ => rfl
  obtain ⟨d18, D18⟩ := c.t.d.def_ 18 (d := dd "address_of" 27) rfl
  have F18 : Fun K "address_of" "address_of" sAddrOf (He.ga K "address_of") d18 := fun_of D18
  have g18 : mg "address_of" = some (.ref (He.ga K "address_of")) := He.glo_ok X G (c.t.d.fact 18 (f := .glo "address_of") rfl)
  have b18 : Binds K d18 ["one"] [] := F18.binds fun _ _ _ _ _ _ us hl => match us, hl with | [_], _ => rfl
  obtain ⟨d19, D19⟩ := c.t.d.def_ 19 (d := dd "_law_cell" 29) rfl
  have F19 : Fun K "_law_cell" "_law_cell" sCell (He.ga K "_law_cell") d19 := fun_of D19
  have g19 : mg "_law_cell" = some (.ref (He.ga K "_law_cell")) := He.glo_ok X G (c.t.d.fact 19 (f := .glo "_law_cell") rfl)
  have b19 : Binds K d19 ["script", "k"] [] := F19.binds fun _ _ _ _ _ _ us hl => match us, hl with | [_, _], _ => rfl
  obtain ⟨d20, D20⟩ := c.t.d.def_ 20 (d := dd "_law_pool" 30) rfl
  have F20 : Fun K "_law_pool" "_law_pool" sPool (He.ga K "_law_pool") d20 := fun_of D20
  have g20 : mg "_law_pool" = some (.ref (He.ga K "_law_pool")) := He.glo_ok X G (c.t.d.fact 20 (f := .glo "_law_pool") rfl)
  have b20 : Binds K d20 ["cell"] [] := F20.binds fun _ _ _ _ _ _ us hl => match us, hl with | [_], _ => rfl
  obtain ⟨d21, D21⟩ := c.t.d.def_ 21 (d := dd "_law_take" 31) rfl
  have F21 : Fun K "_law_take" "_law_take" sTake (He.ga K "_law_take") d21 := fun_of D21
  have g21 : mg "_law_take" = some (.ref (He.ga K "_law_take")) := He.glo_ok X G (c.t.d.fact 21 (f := .glo "_law_take") rfl)
  have b21 : Binds K d21 ["pool", "many"] [] := F21.binds fun _ _ _ _ _ _ us hl => match us, hl with | [_, _], _ => rfl
  obtain ⟨d22, D22⟩ := c.t.d.def_ 22 (d := dd "_law_one" 32) rfl
  have F22 : Fun K "_law_one" "_law_one" sOne (He.ga K "_law_one") d22 := fun_of D22
  have g22 : mg "_law_one" = some (.ref (He.ga K "_law_one")) := He.glo_ok X G (c.t.d.fact 22 (f := .glo "_law_one") rfl)
  have b22 : Binds K d22 ["pool", "things"] [] := F22.binds fun _ _ _ _ _ _ us hl => match us, hl with | [_, _], _ => rfl
  obtain ⟨d23, D23⟩ := c.t.d.def_ 23 (d := dd "_law_mixed" 33) rfl
  have F23 : Fun K "_law_mixed" "_law_mixed" sMixed (He.ga K "_law_mixed") d23 := fun_of D23
  have g23 : mg "_law_mixed" = some (.ref (He.ga K "_law_mixed")) := He.glo_ok X G (c.t.d.fact 23 (f := .glo "_law_mixed") rfl)
  have b23 : Binds K d23 ["pool", "things"] [] := F23.binds fun _ _ _ _ _ _ us hl => match us, hl with | [_, _], _ => rfl
  obtain ⟨d24, D24⟩ := c.t.d.def_ 24 (d := dd "_law_key" 34) rfl
  have F24 : Fun K "_law_key" "_law_key" sLKey (He.ga K "_law_key") d24 := fun_of D24
  have g24 : mg "_law_key" = some (.ref (He.ga K "_law_key")) := He.glo_ok X G (c.t.d.fact 24 (f := .glo "_law_key") rfl)
  have b24 : Binds K d24 ["unknown"] [] := F24.binds fun _ _ _ _ _ _ us hl => match us, hl with | [_], _ => rfl
  obtain ⟨d25, D25⟩ := c.t.d.def_ 25 (d := dd "_law_total" 35) rfl
  have F25 : Fun K "_law_total" "_law_total" sTotal (He.ga K "_law_total") d25 := fun_of D25
  have g25 : mg "_law_total" = some (.ref (He.ga K "_law_total")) := He.glo_ok X G (c.t.d.fact 25 (f := .glo "_law_total") rfl)
  have b25 : Binds K d25 ["number", "pairs"] [] := F25.binds fun _ _ _ _ _ _ us hl => match us, hl with | [_, _], _ => rfl
  obtain ⟨d26, D26⟩ := c.t.d.def_ 26 (d := dd "_law_added" 36) rfl
  have F26 : Fun K "_law_added" "_law_added" sAdded (He.ga K "_law_added") d26 := fun_of D26
  have g26 : mg "_law_added" = some (.ref (He.ga K "_law_added")) := He.glo_ok X G (c.t.d.fact 26 (f := .glo "_law_added") rfl)
  have b26 : Binds K d26 ["one", "other", "many"] [] := F26.binds fun _ _ _ _ _ _ us hl => match us, hl with | [_, _, _], _ => rfl
  obtain ⟨d27, D27⟩ := c.t.d.def_ 27 (d := dd "_law_address" 37) rfl
  have F27 : Fun K "_law_address" "_law_address" sLAddr (He.ga K "_law_address") d27 := fun_of D27
  have g27 : mg "_law_address" = some (.ref (He.ga K "_law_address")) := He.glo_ok X G (c.t.d.fact 27 (f := .glo "_law_address") rfl)
  have b27 : Binds K d27 ["one"] [] := F27.binds fun _ _ _ _ _ _ us hl => match us, hl with | [_], _ => rfl
  obtain ⟨d28, D28⟩ := c.t.d.def_ 28 (d := dd "_law_pairs" 38) rfl
  have F28 : Fun K "_law_pairs" "_law_pairs" sPairs (He.ga K "_law_pairs") d28 := fun_of D28
  have g28 : mg "_law_pairs" = some (.ref (He.ga K "_law_pairs")) := He.glo_ok X G (c.t.d.fact 28 (f := .glo "_law_pairs") rfl)
  have b28 : Binds K d28 ["pool"] [] := F28.binds fun _ _ _ _ _ _ us hl => match us, hl with | [_], _ => rfl
  obtain ⟨d29, D29⟩ := c.t.d.def_ 29 (d := dd "_law_loose" 39) rfl
  have F29 : Fun K "_law_loose" "_law_loose" sLoose (He.ga K "_law_loose") d29 := fun_of D29
  have g29 : mg "_law_loose" = some (.ref (He.ga K "_law_loose")) := He.glo_ok X G (c.t.d.fact 29 (f := .glo "_law_loose") rfl)
  have b29 : Binds K d29 ["pool", "number", "pairs"] [] := F29.binds fun _ _ _ _ _ _ us hl => match us, hl with | [_, _, _], _ => rfl
  obtain ⟨d30, D30⟩ := c.t.d.def_ 30 (d := dd "_law_met" 40) rfl
  have F30 : Fun K "_law_met" "_law_met" sMet (He.ga K "_law_met") d30 := fun_of D30
  have g30 : mg "_law_met" = some (.ref (He.ga K "_law_met")) := He.glo_ok X G (c.t.d.fact 30 (f := .glo "_law_met") rfl)
  have b30 : Binds K d30 ["ask"] [] := F30.binds fun _ _ _ _ _ _ us hl => match us, hl with | [_], _ => rfl
  obtain ⟨d31, D31⟩ := c.t.d.def_ 31 (d := dd "_law_put" 41) rfl
  have F31 : Fun K "_law_put" "_law_put" sPut (He.ga K "_law_put") d31 := fun_of D31
  have g31 : mg "_law_put" = some (.ref (He.ga K "_law_put")) := He.glo_ok X G (c.t.d.fact 31 (f := .glo "_law_put") rfl)
  have b31 : Binds K d31 ["one", "worths"] [] := F31.binds fun _ _ _ _ _ _ us hl => match us, hl with | [_, _], _ => rfl
  obtain ⟨d32, D32⟩ := c.t.d.def_ 32 (d := dd "_law_refused_right" 42) rfl
  have F32 : Fun K "_law_refused_right" "_law_refused_right" sRef (He.ga K "_law_refused_right") d32 := fun_of D32
  have g32 : mg "_law_refused_right" = some (.ref (He.ga K "_law_refused_right")) := He.glo_ok X G (c.t.d.fact 32 (f := .glo "_law_refused_right") rfl)
  have b32 : Binds K d32 ["pool", "one"] [] := F32.binds fun _ _ _ _ _ _ us hl => match us, hl with | [_, _], _ => rfl
  obtain ⟨d33, D33⟩ := c.t.d.def_ 33 (d := dd "law" 43) rfl
  have F33 : Fun K "law" "law" sLaw (He.ga K "law") d33 := fun_of D33
  have g33 : mg "law" = some (.ref (He.ga K "law")) := He.glo_ok X G (c.t.d.fact 33 (f := .glo "law") rfl)
  have b33 : Binds K d33 ["script"] [] := F33.binds fun _ _ _ _ _ _ us hl => match us, hl with | [_], _ => rfl
  obtain ⟨dS, DS⟩ := c.t.d.def_ 34 (d := ⟨("BadSum", some "__init__"), "__init__", "BadSum.__init__", defArgs sIniS, defBody sIniS, defScope sIniS, [], []⟩) rfl
  have FS : Fun K "__init__" "BadSum.__init__" sIniS (He.ma K (He.ga K "BadSum") "__init__") dS := fun_of DS
  have bS : Binds K dS ["self", "thing"] [] := FS.binds fun _ _ _ _ _ _ us hl => match us, hl with | [_, _], _ => rfl
  obtain ⟨dN, DN⟩ := c.t.d.def_ 35 (d := ⟨("BadNumber", some "__init__"), "__init__", "BadNumber.__init__", defArgs sIniN, defBody sIniN, defScope sIniN, [], []⟩) rfl
  have FN : Fun K "__init__" "BadNumber.__init__" sIniN (He.ma K (He.ga K "BadNumber") "__init__") dN := fun_of DN
  have bN : Binds K dN ["self", "number"] [] := FN.binds fun _ _ _ _ _ _ us hl => match us, hl with | [_, _], _ => rfl
  obtain ⟨dW, DW⟩ := c.t.d.def_ 36 (d := ⟨("BadWorths", some "__init__"), "__init__", "BadWorths.__init__", defArgs sIniW, defBody sIniW, defScope sIniW, [], []⟩) rfl
  have FW : Fun K "__init__" "BadWorths.__init__" sIniW (He.ma K (He.ga K "BadWorths") "__init__") dW := fun_of DW
  have bW : Binds K dW ["self", "key"] [] := FW.binds fun _ _ _ _ _ _ us hl => match us, hl with | [_, _], _ => rfl
  have CFn : FunC K "_law_refused_right" sRef (cR K).1 (He.ga K "_law_refused_right") d32 := funC_of (p := ("_law_refused_right", none)) D32
  refine ⟨d33, F33, fun base Xb Gb TL1 => ?_⟩
  have ES : Err P w K mg base "BadSum" (He.ga K "BadSum") "thing" := ⟨gS, OS, nS, XS, eS, ⟨_, dS, "thing", mS.at_, eq_of_beq mS.fn, bS, ok_iniS FS OS nS⟩⟩
  have EN : Err P w K mg base "BadNumber" (He.ga K "BadNumber") "number" := ⟨gN, ON, nN, XN, eN, ⟨_, dN, "number", mN.at_, eq_of_beq mN.fn, bN, ok_iniN FN ON nN⟩⟩
  have EW : Err P w K mg base "BadWorths" (He.ga K "BadWorths") "key" := ⟨gW, OW, nW, XW, eW, ⟨_, dW, "key", mW.at_, eq_of_beq mW.fn, bW, ok_iniW FW OW nW⟩⟩
  have H0 := has_of (base := base) (P := P) (w := w) g0 D0.kp b0 (ok_isInt F0 T)
  have H1 := has_of (base := base) (P := P) (w := w) g1 D1.kp b1 (ok_isRow F1 T)
  have H2 := has_of (base := base) (P := P) (w := w) g2 D2.kp b2 (ok_isRowOf F2 T (H1.mono (by decide)))
  have H3 := has_of (base := base) (P := P) (w := w) g3 D3.kp b3 (ok_isName F3 T gLet)
  have H4 := has_of (base := base) (P := P) (w := w) g4 D4.kp b4 (ok_readUnk F4 T R (H2.mono (by decide)) (H0.mono (by decide)) (H3.mono (by decide)))
  have H6 := has_of (base := base) (P := P) (w := w) g6 D6.kp b6 (ok_oneForm F6 T R F5 g5)
  have H7 := has_of (base := base) (P := P) (w := w) g7 D7.kp b7 (ok_readSum F7 (H0.mono (by decide)) (H2.mono (by decide)) (H1.mono (by decide)) (H4.mono (by decide)) (H6.mono (by decide)))
  have H8 := has_of (base := base) (P := P) (w := w) g8 D8.kp b8 (ok_sumOf F8 ES (H7.mono (by decide)))
  have H9 := has_of (base := base) (P := P) (w := w) g9 D9.kp b9 (ok_times F9 (H6.mono (by decide)))
  have H10 := has_of (base := base) (P := P) (w := w) g10 D10.kp b10 (ok_plus F10 (H8.mono (by decide)) (H9.mono (by decide)))
  have H11 := has_of (base := base) (P := P) (w := w) g11 D11.kp b11 (ok_minus F11 (H8.mono (by decide)) (H9.mono (by decide)))
  have H12 := has_of (base := base) (P := P) (w := w) g12 D12.kp b12 (ok_mult F12 EN (H8.mono (by decide)) (H9.mono (by decide)) (H0.mono (by decide)))
  have H13 := has_of (base := base) (P := P) (w := w) g13 D13.kp b13 (ok_readW F13 T EW (H4.mono (by decide)) (H7.mono (by decide)))
  have H14 := has_of (base := base) (P := P) (w := w) g14 D14.kp b14 (ok_with F14 (H6.mono (by decide)))
  have H15 := has_of (base := base) (P := P) (w := w) g15 D15.kp b15 (ok_putIn F15 (H8.mono (by decide)) (H13.mono (by decide)) (H14.mono (by decide)))
  have H16 := has_of (base := base) (P := P) (w := w) g16 D16.kp b16 (ok_unks F16 T (H8.mono (by decide)))
  have H17 := has_of (base := base) (P := P) (w := w) g17 D17.kp b17 (ok_addrIn F17 T)
  have H18 := has_of (base := base) (P := P) (w := w) g18 D18.kp b18 (ok_addrOf F18 (H8.mono (by decide)) (H17.mono (by decide)))
  have H19 := has_of (base := base) (P := P) (w := w) g19 D19.kp b19 (ok_cell F19 T.len)
  have H20 := has_of (base := base) (P := P) (w := w) g20 D20.kp b20 (ok_pool F20 T)
  have H21 := has_of (base := base) (P := P) (w := w) g21 D21.kp b21 (ok_take F21 T)
  have H22 := has_of (base := base) (P := P) (w := w) g22 D22.kp b22 (ok_one F22 T (H21.mono (by decide)))
  have H23 := has_of (base := base) (P := P) (w := w) g23 D23.kp b23 (ok_mixed F23 T (H21.mono (by decide)))
  have H24 := has_of (base := base) (P := P) (w := w) g24 D24.kp b24 (ok_lkey F24)
  have H25 := has_of (base := base) (P := P) (w := w) g25 D25.kp b25 (ok_total F25 T (H24.mono (by decide)))
  have H26 := has_of (base := base) (P := P) (w := w) g26 D26.kp b26 (ok_added F26 T (H25.mono (by decide)))
  have H27 := has_of (base := base) (P := P) (w := w) g27 D27.kp b27 (ok_lAddr F27 T)
  have H28 := has_of (base := base) (P := P) (w := w) g28 D28.kp b28 (ok_pairs F28 T (H21.mono (by decide)) (H22.mono (by decide)))
  have H29 := has_of (base := base) (P := P) (w := w) g29 D29.kp b29 (ok_loose F29 T (H25.mono (by decide)) (H22.mono (by decide)) (H23.mono (by decide)) (H21.mono (by decide)))
  have H31 := has_of (base := base) (P := P) (w := w) g31 D31.kp b31 (ok_put F31 (H26.mono (by decide)))
  have MM : Met K mg (He.ga K "BadSum") (He.ga K "BadNumber") (He.ga K "BadWorths") := ⟨⟨_, d30, g30, F30⟩, ⟨gS, gN, gW, ⟨eS, XS, nS⟩, ⟨eN, XN, nN⟩, ⟨eW, XW, nW⟩, oNS, oWS, oWN⟩⟩
  have RR1 : TR P w K mg base (He.ga K "BadSum") (He.ga K "BadNumber") (He.ga K "BadWorths") := ⟨T, H22, MM, H8, H10, H11, H12, H15, H16, H18⟩
  have HR := has_of (base := base) (P := P) (w := w) g32 D32.kp b32 (ok_ref CFn RR1 TL1 (T' := TT K) (List.mem_cons_self ..) fun p hp _ => by rw [List.mem_singleton.mp hp])
  exact ⟨RR1, TRep, H19, H20, H21, H28, H29, H26, H31, H27, HR⟩
end DR

open PySem PySem.W PySem.Calls PyProof.Rows
theorem PySem.Challenge.cw_loadanywhere_k01_sums_told_holds : PySem.Challenge.rw_loadanywhere_k01_sums_told.Holds := by
  w_on; o_law
  refine HandSHeadRun.head_any (r := DR.RR) (q := view DR.RR.prog [43]) (H := DR.hkk) (ob := DR.obb) (M := 6000) (loose := DR.loosL) (d := HandSHeadRun.topDef DR.RR.prog 43) (kwd := []) DR.obb_eq
    (by kernel_rfl) (fun s => by kernel_rfl) DR.runL (by kernel_rfl) (by kernel_rfl) (by kernel_rfl) (by rfl) (by first | assumption | decide +kernel) (by decide +kernel) ⟨rfl, rfl, rfl, rfl, rfl, by decide +kernel⟩ ?hw ?hc
  case hw => w_witness2
  case hc =>
    refine GA.walk_here (l := PySem.Challenge.rw_loadanywhere_k01_sums_told) (n := 63) (CX := fun w => L2.CX PySem.Challenge.rw_loadanywhere_k01_sums_told.prog w) rfl (by decide) (by kernel_rfl) ?F (fun _ _ _ _ _ z => by
      obtain ⟨_, _, _, _, _, _, _, _, _, _, _, _, y⟩ := z
      exact y.elim)
    intro w mg fa h Y G hmg0
    obtain ⟨K, KX, c⟩ := Y
    have hmg : mg ("law" : PySem.Str) = some (.ref fa) := by
      have e : (HandSHeadRun.topDef DR.RR.prog 43).name = ("law" : PySem.Str) := by kernel_rfl
      rw [← e]
      exact hmg0
    have gL := He.glo_ok KX G (c.t.d.fact 33 (f := .glo "law") rfl)
    have efa := hmg.symm.trans gL
    cases efa
    obtain ⟨fd, hF, hL⟩ := DR.facts (P := PySem.Challenge.rw_loadanywhere_k01_sums_told.prog) (w := w) KX G c
    refine ⟨K, KX, [DR.cR K], ?_, ?_, ?_, ?_⟩
    · intro p hp
      obtain rfl := List.mem_singleton.mp hp
      exact c.empty ("_law_refused_right", none) (List.mem_cons_self ..)
    · intro p hp
      obtain rfl := List.mem_singleton.mp hp
      exact c.out ("_law_refused_right", none) (List.mem_cons_self ..)
    · intro p hp
      obtain rfl := List.mem_singleton.mp hp
      exact codeHd_of_K KX (c.hd ("_law_refused_right", none) (List.mem_cons_self ..))
    · intro base s H a ns Xb Gb hT hTab hS _ e0
      refine DR.law_here hF (hL base Xb Gb (hT _ (List.mem_cons_self ..))) ⟨rfl, by decide, by decide⟩ e0 hS fun p hp => ?_
      obtain rfl := List.mem_singleton.mp hp
      exact LamX.TabS.nil (hTab (DR.cR K) (List.mem_cons_self ..))
