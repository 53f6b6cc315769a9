import PyProof.Rows.All
import Wide.All
import OpenK.AllK
import Wide.FinOn
import HandS.Text
import HandS.ForMost
import HandS.ForExc
import HandS.IsInst
import HandS.Zip
import HandS.Star
import HandS.TupAny
import HandS.Lambda
import HandS.ExcIs
import HandS.ExcCtx
import HandS.HotCalls
import HandS.Wide
import PyProof.FactsAll.list_3
import HandS.List
import HandS.CallLocal
import PyProof.ListMulRoad
import PyProof.FactsAll.tuple_2
import HandS.TupMul
import HandS.Walk
import HandS.Iter
import HandS.Conv
import PyProof.CompFree
import PyProof.Conv_int_bool
import PyProof.WalkInts
import PyProof.SumWalkG
import PyProof.Rows.SumAny
import HandS.ExcValue
import HandS.OwnEq
import HandS.Comp
import HandS.RaiseMore
import PyProof.CollectIter
import KE.KUnpack
import HandS.Dict
import HandS.Style
import HandS.EndTab
import KE.KNestM
import HandS.HeadHook4
import HandS.HeadWalk
import HandS.HeadNt
import HandS.Head3
import PySem.Challenge.RW_foldchains_k21_whole_bounds
set_option Elab.async false
set_option linter.all false
set_option maxRecDepth 100000
set_option maxHeartbeats 4000000
/-! The chains and their texts in plain Lean. -/
namespace FC
open PySem L2 TL

/-! ### steps and chains -/
def tab : List (Str × List Str) :=
  [("line", ["a", "b"]), ("turn", ["m", "r", "a", "b"]), ("keep", ["m", "r"]), ("every", ["k", "r"]), ("twice", []), ("sums", []), ("anew", ["m", "r"]), ("gaps", []), ("groups", ["k"]), ("count", [])]
def bnd : List (Str × Int × Int) := [("a", -3, 3), ("b", -9, 9), ("m", 2, 3), ("k", 2, 3)]
def lohi (l : Str) (ahead : Int) : Int × Int := if l = "r" then (0, ahead - 1) else (bnd.lookup l).getD (0, 0)
def within : List Str → List V → Int → Bool
  | [], [], _ => true
  | l :: ls, .int n :: xs, ahead => !(decide (n < (lohi l ahead).1) || decide (n > (lohi l ahead).2)) && within ls xs n
  | _, _, _ => false
def stepOkN (name : Str) (rest : List V) : Bool := match tab.lookup name with
  | some ls => decide (ls.length = rest.length) && within ls rest 0
  | none => false
def stepOk : List V → Bool
  | .str name :: rest => stepOkN name rest
  | _ => false
def lims : List (Nat × List Str) := [(2, ["sums", "anew", "gaps", "groups", "count"]), (2, ["turn", "keep", "anew"]), (1, ["twice"])]
def headIn (names : List Str) : List V → Bool
  | .str n :: _ => decide (n ∈ names)
  | _ => false
def limOk (steps : List (List V)) : Bool := lims.all fun p => decide ((steps.filter (headIn p.2)).length ≤ p.1)
def chainOk (steps : List (List V)) : Bool := decide (steps.length ≤ 4) && (steps.all stepOk && limOk steps)

/-! ### texts -/
def partText : V → Str
  | .str s => s
  | .int i => Str.ofString (toString i)
  | _ => Str.empty
def stepText (ys : List V) : Str := Txt.join " " (ys.map partText)
def chainText (c : List (List V)) : Str := Txt.join " | " (c.map stepText)
def numTab : List (Str × Int) := [("-9", -9), ("-8", -8), ("-7", -7), ("-6", -6), ("-5", -5), ("-4", -4), ("-3", -3), ("-2", -2), ("-1", -1),
  ("0", 0), ("1", 1), ("2", 2), ("3", 3), ("4", 4), ("5", 5), ("6", 6), ("7", 7), ("8", 8), ("9", 9)]
def num (w : Str) : V := match numTab.lookup w with
  | some n => .int n
  | none => .non
def readStep (p : Str) : List V := match Txt.split p " " with
  | name :: ws => .str name :: ws.map num
  | [] => []
def parts (z : Str) : List Str := if z = Str.empty then [] else Txt.split z " | "
def parse (z : Str) : List (List V) := (parts z).map readStep

/-! ### joining what was split, splitting what was joined -/
theorem spl_ne (S : List Nat) : ∀ (k : Nat) (acc l : List Nat), spl S k acc l ≠ []
  | 0, acc, [] => by simp [spl]
  | k + 1, acc, [] => by simp [spl]
  | 0, acc, c :: r => by
    show (if pre S (c :: r) = true then acc :: spl S (S.length - 1) [] r else spl S 0 (acc ++ [c]) r) ≠ []
    split
    · simp
    · exact spl_ne S 0 _ r
  | k + 1, acc, c :: r => spl_ne S k acc r
theorem joinL_cons {S p : List Nat} {r : List (List Nat)} (h : r ≠ []) : joinL S (p :: r) = p ++ (S ++ joinL S r) := by
  cases r with
  | nil => exact absurd rfl h
  | cons q r => rfl
theorem joinL_spl {S : List Nat} (hS : S ≠ []) : ∀ (n : Nat) (acc l : List Nat), l.length ≤ n → joinL S (spl S 0 acc l) = acc ++ l
  | _, acc, [], _ => by simp [spl, joinL]
  | 0, acc, c :: r, h => by simp at h
  | n + 1, acc, c :: r, h => by
    have hr : r.length ≤ n := by simpa using h
    by_cases hp : pre S (c :: r) = true
    · rw [spl_hit hp, joinL_cons (spl_ne _ _ _ _), spl_pass, joinL_spl hS n [] _ (by rw [List.length_drop]; omega), List.nil_append]
      have e : (c :: r).take S.length = S := eq_of_beq hp
      have e2 := List.take_append_drop S.length (c :: r)
      rw [e] at e2
      have hd : (c :: r).drop S.length = r.drop (S.length - 1) := by
        cases S with
        | nil => exact absurd rfl hS
        | cons s S => simp
      rw [hd] at e2
      rw [e2]
    · rw [spl_miss (by simpa using hp), joinL_spl hS n (acc ++ [c]) r hr]
      simp
theorem join_split {y : Str} {s : Nat} {S : List Nat} (ey : tl y = s :: S) (hk : y.cps.all (· < 256) = true) (x : Str) : Txt.join y (Txt.split x y) = x := by
  refine ext_tl ?_
  rw [join_eq, tl_join, split_spl x y (by rw [ey]; simp) (kind_ok hk), joinL_spl (by rw [ey]; simp) _ _ _ (Nat.le_refl _), List.nil_append]
/-- a bar within blanks -/
theorem spl_bar {p rest acc : List Nat} (h : 124 ∉ p) : spl [32, 124, 32] 0 acc (p ++ ([32, 124, 32] ++ rest)) = (acc ++ p) :: spl [32, 124, 32] 0 [] rest := by
  refine spl_part (by simp) fun i hi => ?_
  have hlt : i < (p ++ ([32, 124, 32] ++ rest)).length := by rw [List.length_append]; omega
  cases e : pre [32, 124, 32] ((p ++ ([32, 124, 32] ++ rest)).drop i) with
  | false => rfl
  | true =>
    exfalso
    have e1 : ((p ++ ([32, 124, 32] ++ rest)).drop i).take 3 = [32, 124, 32] := eq_of_beq e
    have e2 := congrArg (fun l => l[1]?) e1
    simp only [List.getElem?_take, List.getElem?_drop] at e2
    by_cases hq : i + 1 < p.length
    · rw [List.getElem?_append_left hq] at e2
      simp at e2
      have : p[i + 1] = 124 := by
        rw [List.getElem?_eq_getElem hq] at e2
        exact Option.some.inj e2
      exact h (this ▸ List.getElem_mem hq)
    · have hq : i + 1 = p.length := by omega
      rw [hq, List.getElem?_append_right (Nat.le_refl _)] at e2
      simp at e2
theorem spl_barLast {p acc : List Nat} (h : 124 ∉ p) : spl [32, 124, 32] 0 acc p = [acc ++ p] := by
  refine spl_last fun i hi => ?_
  cases e : pre [32, 124, 32] (p.drop i) with
  | false => rfl
  | true =>
    exfalso
    have e1 : (p.drop i).take 3 = [32, 124, 32] := eq_of_beq e
    have e2 := congrArg (fun l => l[1]?) e1
    simp only [List.getElem?_take, List.getElem?_drop] at e2
    by_cases hq : i + 1 < p.length
    · rw [List.getElem?_eq_getElem hq] at e2
      simp at e2
      exact h (e2 ▸ List.getElem_mem hq)
    · rw [List.getElem?_eq_none (by omega)] at e2
      simp at e2
theorem spl_barJoin : ∀ {ps : List (List Nat)}, ps ≠ [] → (∀ p ∈ ps, 124 ∉ p) → spl [32, 124, 32] 0 [] (joinL [32, 124, 32] ps) = ps
  | [], h, _ => absurd rfl h
  | [p], _, hp => by
    show spl [32, 124, 32] 0 [] p = [p]
    rw [spl_barLast (hp p (List.mem_singleton.mpr rfl)), List.nil_append]
  | p :: q :: r, _, hp => by
    show spl [32, 124, 32] 0 [] (p ++ ([32, 124, 32] ++ joinL [32, 124, 32] (q :: r))) = p :: q :: r
    rw [spl_bar (hp p (List.mem_cons_self ..)), List.nil_append, spl_barJoin (by simp) fun z hz => hp z (List.mem_cons_of_mem _ hz)]
theorem tl_sp : tl (" " : Str) = 32 :: [] := by decide +kernel
theorem tl_bar : tl (" | " : Str) = [32, 124, 32] := by decide +kernel
theorem all_sp : (" " : Str).cps.all (· < 256) = true := by decide +kernel
theorem all_bar : (" | " : Str).cps.all (· < 256) = true := by decide +kernel
theorem split_bar {ps : List Str} (hne : ps ≠ []) (hp : ∀ p ∈ ps, 124 ∉ tl p) : Txt.split (Txt.join " | " ps) " | " = ps := by
  refine map_tl_inj ?_
  rw [split_spl _ _ (by rw [tl_bar]; simp) (kind_ok all_bar), join_eq, tl_join, tl_bar]
  refine spl_barJoin (fun e => hne (List.map_eq_nil_iff.mp e)) fun p h => ?_
  obtain ⟨z, hz, rfl⟩ := List.mem_map.mp h
  exact hp z hz
theorem split_sp {ps : List Str} (hne : ps ≠ []) (hp : ∀ p ∈ ps, 32 ∉ tl p) : Txt.split (Txt.join " " ps) " " = ps := split_join tl_sp all_sp hne hp
theorem join_sp (x : Str) : Txt.join " " (Txt.split x " ") = x := join_split tl_sp all_sp x
theorem join_bar (x : Str) : Txt.join " | " (Txt.split x " | ") = x := join_split (s := 32) (S := [124, 32]) tl_bar all_bar x
theorem split_ne (x y : Str) : Txt.split x y ≠ [] := by
  unfold Txt.split
  split
  · simp
  · split
    · simp
    · unfold PySem.Builtin.Str.partsBetween
      exact fun z => by
        first
          | exact absurd z (by simp)
          | (cases h : PySem.Builtin.Str.occurrences x y 0 x.length (x.length + 1) <;> simp_all)

/-! ### what a step's numbers are -/
def names : List Str := tab.map (·.1)
theorem lookup_mem {α β : Type} [BEq α] [LawfulBEq α] : ∀ {l : List (α × β)} {k : α} {v : β}, l.lookup k = some v → (k, v) ∈ l
  | [], _, _, h => by simp at h
  | (a, b) :: r, k, v, h => by
    rw [List.lookup_cons] at h
    split at h
    · rename_i e
      have e := eq_of_beq e
      cases h
      subst e
      exact List.mem_cons_self
    · exact List.mem_cons_of_mem _ (lookup_mem h)
theorem lohi_in (l : Str) (a : Int) (ha : a ≤ 9) : -9 ≤ (lohi l a).1 ∧ (lohi l a).2 ≤ 9 := by
  unfold lohi
  split
  · constructor
    · show (-9 : Int) ≤ 0
      decide
    · show a - 1 ≤ 9
      omega
  · cases h : bnd.lookup l with
    | none => exact ⟨by decide, by decide⟩
    | some p =>
      have m := lookup_mem h
      have all : ∀ q ∈ bnd, -9 ≤ q.2.1 ∧ q.2.2 ≤ 9 := by decide +kernel
      exact all _ m
theorem within_ints : ∀ {ls : List Str} {xs : List V} {a : Int}, a ≤ 9 → within ls xs a = true → ∃ ns : List Int, xs = ns.map V.int ∧ (∀ n ∈ ns, -9 ≤ n ∧ n ≤ 9) ∧ ns.length = ls.length
  | [], [], _, _, _ => ⟨[], rfl, by simp, rfl⟩
  | l :: ls, .int n :: xs, a, ha, h => by
    unfold within at h
    simp only [Bool.and_eq_true, Bool.not_eq_true', Bool.or_eq_false_iff, decide_eq_false_iff_not] at h
    obtain ⟨⟨h1, h2⟩, h3⟩ := h
    have b := lohi_in l a ha
    have hn : -9 ≤ n ∧ n ≤ 9 := by omega
    obtain ⟨ns, e, q, hl⟩ := within_ints (ls := ls) (xs := xs) (a := n) hn.2 h3
    exact ⟨n :: ns, by rw [e]; rfl, by
      intro m hm
      rcases List.mem_cons.mp hm with z | z
      · rw [z]; exact hn
      · exact q m z, by simp [hl]⟩
  | [], _ :: _, _, _, h => by simp [within] at h
  | _ :: _, [], _, _, h => by simp [within] at h
  | _ :: _, .non :: _, _, _, h => by simp [within] at h
  | _ :: _, .bl _ :: _, _, _, h => by simp [within] at h
  | _ :: _, .str _ :: _, _, _, h => by simp [within] at h
  | _ :: _, .byt _ :: _, _, _, h => by simp [within] at h
  | _ :: _, .flt _ :: _, _, _, h => by simp [within] at h
  | _ :: _, .ref _ :: _, _, _, h => by simp [within] at h
  | _ :: _, .ty _ :: _, _, _, h => by simp [within] at h
theorem stepOk_shape {ys : List V} (h : stepOk ys = true) : ∃ (name : Str) (ns : List Int), ys = .str name :: ns.map V.int ∧ name ∈ names ∧ (∀ n ∈ ns, -9 ≤ n ∧ n ≤ 9) ∧ ns.length ≤ 4 := by
  match ys, h with
  | .str name :: rest, h =>
    have h : stepOkN name rest = true := h
    unfold stepOkN at h
    cases e : tab.lookup name with
    | none => rw [e] at h; simp at h
    | some ls =>
      rw [e] at h
      simp only [Bool.and_eq_true, decide_eq_true_eq] at h
      obtain ⟨ns, e1, e2, e3⟩ := within_ints (by decide) h.2
      have m := lookup_mem e
      have all : ∀ q ∈ tab, q.2.length ≤ 4 := by decide +kernel
      exact ⟨name, ns, by rw [e1], List.mem_map.mpr ⟨_, m, rfl⟩, e2, by rw [e3]; exact all _ m⟩
  | [], h => simp [stepOk] at h
  | .non :: _, h => simp [stepOk] at h
  | .bl _ :: _, h => simp [stepOk] at h
  | .int _ :: _, h => simp [stepOk] at h
  | .byt _ :: _, h => simp [stepOk] at h
  | .flt _ :: _, h => simp [stepOk] at h
  | .ref _ :: _, h => simp [stepOk] at h
  | .ty _ :: _, h => simp [stepOk] at h
def small : List Int := [-9, -8, -7, -6, -5, -4, -3, -2, -1, 0, 1, 2, 3, 4, 5, 6, 7, 8, 9]
theorem small_of {n : Int} (h : -9 ≤ n ∧ n ≤ 9) : n ∈ small := by
  have : n = -9 ∨ n = -8 ∨ n = -7 ∨ n = -6 ∨ n = -5 ∨ n = -4 ∨ n = -3 ∨ n = -2 ∨ n = -1 ∨ n = 0 ∨ n = 1 ∨ n = 2 ∨ n = 3 ∨ n = 4 ∨ n = 5 ∨ n = 6 ∨ n = 7 ∨ n = 8 ∨ n = 9 := by omega
  simp only [small, List.mem_cons]
  omega
theorem num_back : ∀ n ∈ small, num (partText (.int n)) = .int n ∧ 32 ∉ tl (partText (.int n)) ∧ 124 ∉ tl (partText (.int n)) ∧ (partText (.int n)).length ≤ 2 := by decide +kernel
theorem num_text : ∀ p ∈ numTab, partText (.int p.2) = p.1 := by decide +kernel
theorem names_free : ∀ x ∈ names, 32 ∉ tl x ∧ 124 ∉ tl x ∧ x.length ≤ 6 := by decide +kernel
theorem num_some {w : Str} {n : Int} (h : num w = .int n) : partText (.int n) = w := by
  unfold num at h
  cases e : numTab.lookup w with
  | none => rw [e] at h; cases h
  | some m =>
    rw [e] at h
    cases h
    exact num_text _ (lookup_mem e)
theorem readStep_text {ys : List V} (h : stepOk ys = true) : readStep (stepText ys) = ys := by
  obtain ⟨name, ns, rfl, hn, hs, _⟩ := stepOk_shape h
  have e : Txt.split (stepText (.str name :: ns.map V.int)) " " = (V.str name :: ns.map V.int).map partText := by
    refine split_sp (by simp) fun p hp => ?_
    obtain ⟨v, hv, rfl⟩ := List.mem_map.mp hp
    rcases List.mem_cons.mp hv with z | z
    · rw [z]; exact (names_free _ hn).1
    · obtain ⟨n, hn', rfl⟩ := List.mem_map.mp z
      exact (num_back n (small_of (hs n hn'))).2.1
  unfold readStep
  rw [e]
  show V.str name :: ((ns.map V.int).map partText).map num = _
  rw [List.map_map, List.map_map]
  congr 1
  refine List.map_congr_left fun n hn' => ?_
  exact (num_back n (small_of (hs n hn'))).1
theorem joinL_mem {S : List Nat} {c : Nat} : ∀ {ps : List (List Nat)}, c ∈ joinL S ps → c ∈ S ∨ ∃ p ∈ ps, c ∈ p
  | [], h => by simp [joinL] at h
  | [p], h => .inr ⟨p, by simp, h⟩
  | p :: q :: r, h => by
    have h : c ∈ p ++ (S ++ joinL S (q :: r)) := h
    rw [List.mem_append, List.mem_append] at h
    rcases h with h | h | h
    · exact .inr ⟨p, by simp, h⟩
    · exact .inl h
    · rcases joinL_mem h with z | ⟨p', h1, h2⟩
      · exact .inl z
      · exact .inr ⟨p', List.mem_cons_of_mem _ h1, h2⟩
theorem stepText_free {ys : List V} (h : stepOk ys = true) : 124 ∉ tl (stepText ys) := by
  obtain ⟨name, ns, rfl, hn, hs, _⟩ := stepOk_shape h
  unfold stepText
  rw [join_eq, tl_join, tl_sp]
  intro z
  rcases joinL_mem z with z | ⟨p, hp, hc⟩
  · simp at z
  · obtain ⟨q, hq, rfl⟩ := List.mem_map.mp hp
    obtain ⟨v, hv, rfl⟩ := List.mem_map.mp hq
    rcases List.mem_cons.mp hv with z | z
    · rw [z] at hc; exact (names_free _ hn).2.1 hc
    · obtain ⟨n, hn', rfl⟩ := List.mem_map.mp z
      exact (num_back n (small_of (hs n hn'))).2.2.1 hc
theorem join_cons_ne {S : List Nat} {p : List Nat} {r : List (List Nat)} (h : p ≠ []) : joinL S (p :: r) ≠ [] := by
  cases r with
  | nil => exact h
  | cons q r =>
    show p ++ (S ++ joinL S (q :: r)) ≠ []
    simp [h]
theorem names_ne : ∀ x ∈ names, tl x ≠ [] := by decide +kernel
theorem stepText_ne {ys : List V} (h : stepOk ys = true) : tl (stepText ys) ≠ [] := by
  obtain ⟨name, ns, rfl, hn, hs, _⟩ := stepOk_shape h
  unfold stepText
  rw [join_eq, tl_join]
  exact join_cons_ne (names_ne _ hn)
theorem chainText_ne {c : List (List V)} (hc : c ≠ []) (h : ∀ ys ∈ c, stepOk ys = true) : chainText c ≠ Str.empty := by
  cases c with
  | nil => exact absurd rfl hc
  | cons ys c =>
    intro e
    have e := congrArg tl e
    unfold chainText at e
    rw [join_eq, tl_join] at e
    exact join_cons_ne (stepText_ne (h ys (by simp))) e
theorem chainOk_steps {c : List (List V)} (h : chainOk c = true) : ∀ ys ∈ c, stepOk ys = true := by
  unfold chainOk at h
  simp only [Bool.and_eq_true, List.all_eq_true] at h
  exact h.2.1
theorem chainOk_len {c : List (List V)} (h : chainOk c = true) : c.length ≤ 4 := by
  unfold chainOk at h
  simp only [Bool.and_eq_true, decide_eq_true_eq] at h
  exact h.1
/-- parsing is the inverse of formatting -/
theorem parse_text {c : List (List V)} (h : chainOk c = true) : parse (chainText c) = c := by
  have hs := chainOk_steps h
  unfold parse parts
  by_cases hc : c = []
  · subst hc
    rfl
  · rw [if_neg (chainText_ne hc hs)]
    unfold chainText
    rw [split_bar (by simpa using hc) (fun p hp => by
      obtain ⟨ys, hy, rfl⟩ := List.mem_map.mp hp
      exact stepText_free (hs ys hy)), List.map_map]
    have : ∀ ys ∈ c, (readStep ∘ stepText) ys = ys := fun ys hy => readStep_text (hs ys hy)
    exact (List.map_congr_left this).trans (List.map_id _)
theorem text_readStep {p : Str} (h : stepOk (readStep p) = true) : stepText (readStep p) = p := by
  obtain ⟨name, ns, e, hn, hs, _⟩ := stepOk_shape h
  unfold readStep at e h ⊢
  cases es : Txt.split p " " with
  | nil => exact absurd es (split_ne _ _)
  | cons x ws =>
    rw [es] at e
    injection e with e1 e2
    show Txt.join " " (partText (.str x) :: (ws.map num).map partText) = p
    have : (ws.map num).map partText = ws := by
      rw [List.map_map]
      refine (List.map_congr_left (g := id) fun w hw => ?_).trans (List.map_id _)
      have hm : num w ∈ ns.map V.int := by rw [← e2]; exact List.mem_map.mpr ⟨w, hw, rfl⟩
      obtain ⟨n, _, en⟩ := List.mem_map.mp hm
      show partText (num w) = w
      rw [← en]
      exact num_some en.symm
    rw [this]
    show Txt.join " " (x :: ws) = p
    rw [← es]
    exact join_sp p
/-- what is parsed and is a chain has the text that was parsed -/
theorem text_parse {z : Str} (h : chainOk (parse z) = true) : chainText (parse z) = z := by
  have hs := chainOk_steps h
  unfold parse parts at hs ⊢
  by_cases hz : z = Str.empty
  · rw [if_pos hz, hz]
    rfl
  · rw [if_neg hz] at hs ⊢
    unfold chainText
    rw [List.map_map]
    have : ∀ p ∈ Txt.split z " | ", (stepText ∘ readStep) p = id p := fun p hp => text_readStep (hs _ (List.mem_map.mpr ⟨p, hp, rfl⟩))
    rw [List.map_congr_left this, List.map_id]
    exact join_bar z
end FC
set_option Elab.async false
set_option linter.all false
set_option maxRecDepth 100000
namespace FC
open PySem L2
def top (i : Nat) : Stmt := PySem.Challenge.pw_foldchains_k21_whole_bounds.main.body.getD i (.Pass ⟨0, 0, 0, 0⟩)
abbrev sIsChain : Stmt := top 15
abbrev sCheck : Stmt := top 16
abbrev sIsWhole : Stmt := top 17
abbrev sIsStep : Stmt := top 18
abbrev sWithin : Stmt := top 19
abbrev sLimits : Stmt := top 20
-- no sFormat
abbrev sParse : Stmt := top 89
-- no sStepText
abbrev sReadStep : Stmt := top 90
abbrev sCell : Stmt := top 92
abbrev sDrawn : Stmt := top 93
abbrev sRoll : Stmt := top 94
abbrev sRounds : Stmt := top 95
abbrev sTerm : Stmt := top 96
abbrev sTold : Stmt := top 97
-- no sRest
-- no sStep
-- no sChain
abbrev sLaw : Stmt := top 99
/-- the built-in names that the program and the law use -/
structure Blt (mg : Str → Option Value) : Prop where
  isi : mg "isinstance" = none
  int : mg "int" = none
  bool : mg "bool" = none
  str : mg "str" = none
  tuple : mg "tuple" = none
  len : mg "len" = none
  all : mg "all" = none
  zip : mg "zip" = none
  range : mg "range" = none
  max : mg "max" = none
  min : mg "min" = none
  sum : mg "sum" = none
  vErr : mg "ValueError" = none
end FC
namespace FC
open PySem L2
/-- a def that may be called by its name -/
structure Cal (P : Program) (w : World) (K : PySem.W.Frag) (mg : Str → Option Value) (base : Heap) (CX : CXT) (k : Nat) (x : Str) (ps : List Str) (sp : Sp) : Prop where
  ex : ∃ f fd, FnOk P w K mg base CX k f fd ps sp ∧ mg x = some (.ref f) ∧ PySem.W.keepIn K (.ref f) = true ∧ Binds K fd ps []
def tCal (sp : Sp) (E : XK) (t : TA) : TE := fun σ H Q => t σ H fun vs H1 => sp vs H1 Q E
section
variable {X : Cx} {CX : CXT} {k : Nat} {x : Str} {ps : List Str} {sp : Sp} {E : XK} {e : Expr} {es : List Expr} {t : TA} {p pos : Pos}
theorem pe_cal (C : Cal X.prog X.w X.K X.mg X.base CX k x ps sp) (hr : Room k X.A) (hx : Passes CX X E) (ha : PA X (e :: es) t) (hg : Gl X x := by rfl) (hdb : (x == ("__debug__" : Str)) = false := by decide)
    (he : starEach (e :: es) X.env = (false, eval e X.env) :: starEach es X.env := by rfl) (hpl : (backTo pos (starEach es X.env)).any (·.1) = false := by rfl) :
    PE X (.Call (.Name x p) (e :: es) [] pos) (tCal sp E t) := by
  obtain ⟨f, fd, G, m, kp, b⟩ := C.ex
  have h := pe_call (E := E) (pos := pos) (p := p) G hr hg m kp b .nil hx ha hdb he hpl
  refine ⟨fun pins s σ H Q I q => h.run pins s σ H Q I ?_⟩
  have mono := ha
  refine (show tCall sp [] E t σ H Q from ?_)
  unfold tCall
  unfold tCal at q
  simpa using q
end
end FC
namespace FC
open PySem L2
/-! ### the tables of the module as they stand behind the top -/
structure LetT (K : PySem.W.Frag) (w : World) (d : Addr) : Prop where
  kd : ∃ es n, KDict K w d es n
  at_ : ∀ z, ∃ r, PySem.W.nsIn K d z = some r ∧ match tab.lookup z with
    | none => r = none
    | some ls => ∃ a, r = some (.ref a) ∧ ∀ H, SqT K H a (ls.map V.str)
structure BndT (K : PySem.W.Frag) (w : World) (d : Addr) : Prop where
  kd : ∃ es n, KDict K w d es n
  at_ : ∀ p ∈ bnd, ∃ a, PySem.W.nsIn K d p.1 = some (some (.ref a)) ∧ ∀ H, SqT K H a [.int p.2.1, .int p.2.2]
structure NumT (K : PySem.W.Frag) (w : World) (d : Addr) : Prop where
  kd : ∃ es n, KDict K w d es n
  at_ : ∀ z, ∃ r, PySem.W.nsIn K d z = some r ∧ match numTab.lookup z with
    | none => r = none
    | some i => ∃ t, r = some (.int i t)
structure LimT (K : PySem.W.Frag) (a : Addr) : Prop where
  at_ : ∃ rs : List Addr, (∀ H, SqT K H a (rs.map V.ref)) ∧ rs.length = lims.length ∧ ∀ (i : Nat) (p : Nat × List Str) (r : Addr), lims[i]? = some p → rs[i]? = some r →
    ∃ c, (∀ H, SqT K H r [.int (p.1 : Nat), .ref c]) ∧ ∀ H, SqT K H c (p.2.map V.str)
end FC
namespace FC
open PySem L2
/-- an own exception class of the module, told of its written part -/
structure ExcT (K : PySem.W.Frag) (mg : Str → Option Value) (x : Str) (C : Addr) : Prop where
  gC : mg x = some (.ref C)
  q : PySem.W.excIn K C [.type "ValueError", .type "Exception", .type "BaseException", .type "object"] "ValueError.__new__" = true
  kC : PySem.W.keepIn K (.ref C) = true
  bP : PySem.W.subIn K (.ref C) (.type "BaseException") = some true
  tP : PySem.W.typeIn K (.ref C) = some (.type "type")
/-- a def that may let out an exception whose context is None -/
theorem okN {P : Program} {w : World} {K : PySem.W.Frag} {mg : Str → Option Value} {base : Heap} {x : Str} {st : Stmt} {f : Addr} {fd : FuncData} {N ps : List Str} {k : Nat} {sp : Sp} (F : Fun K x x st f fd) (S : FnScope N ps (defScope st))
    (len : ∀ vs H Q E, sp vs H Q E → vs.length = ps.length)
    (body : ∀ (c : Value) (A : Around) (outer : List Env) (s : Shared) (H : Hp) (vs : List V) (Q : VK) (E : XK), Room k (A.deeper (PyProof.Rows.envOfC x (defScope st) s.heap.objs.size f c)) → sp vs H Q E →
      ∃ t, PSs (cxOf (L2N.CX P w) P w K mg base N x (defScope st) f c A outer s H E) (defBody st) t ∧ t { nx := fun _ H' => Q .non H', rt := Q } (start N vs) H) :
    FnOk P w K mg base (L2N.CX P w) (k + 1) f fd ps sp := by
  obtain ⟨oc, od, kV, doc, pm, an, c, ct, osl, rfl, lk, hcd⟩ := F.ex
  exact fn_of lk hcd S len fun A outer s H vs Q E hr h => body c A outer s H vs Q E hr h
/-- none of its exceptions is known here: the call lets none out -/
theorem passN {X : Cx} : Passes (L2N.CX X.prog X.w) X E0 := fun _ _ _ _ _ _ _ h => by
  obtain ⟨_, _, _, _, _, _, _, _, _, _, _, _, z⟩ := h
  exact z.elim
end FC
namespace FC
open PySem L2
/-- an expression told in other words -/
theorem pe_as {X : Cx} {e : Expr} {t t' : TE} (h : PE X e t) (i : ∀ σ H Q, t' σ H Q → t σ H Q) : PE X e t' := ⟨fun pins s σ H Q I q => h.run pins s σ H Q I (i σ H Q q)⟩
end FC
set_option Elab.async false
set_option linter.all false
set_option maxRecDepth 100000
set_option maxHeartbeats 4000000
/-! l.extend(t) by a tuple; a call of a name that holds one of several defs. -/
namespace FC
open PySem PySem.Spec PyProof.Rows L2
theorem list_extend_tup (l : Addr) (items : Array Value) (n : Nat) (b : Addr) (items2 : Array Value) (n2 : Nat) (dd : Option Addr) (sl : Array (Option Value)) (hs0 : ¬(!items.isEmpty && Builtin.List.listTooLong (items.size + items2.size)) = true) (hs1 : items.size ≤ sizeLine) (hs2 : items.size + items2.size ≤ sizeLine + 1) :
    Meets (Builtin.«list.extend» ⟨[.ref l, .ref b], []⟩) (fun _ R s => s.heap.get? l = some { cls := .type "list", dict := none, data := .seq items n, slots := #[] } ∧ s.heap.get? b = some { cls := .type "tuple", dict := dd, data := .seq items2 n2, slots := sl } ∧ R (.ok (.ret Value.none)) { s with heap := s.heap.update l (Obj.mapSeq fun x => x ++ items2), toks := s.toks }) :=
  .of_wp fun prog w A R s h => by
    obtain ⟨hp, g, d, tk, os⟩ := s; obtain ⟨hl, hb, h⟩ := h; have f1 := AutoSeq1.idx_int; have f2 := AutoSeq1.sub_tuple_tuple; have f3 := AutoSeq1.sub_list_list; have f4 := AutoSeq1.sub_tuple_list; have f5 := AutoSeq1.sub_list_tuple
    have hz' : (items ++ items2).size ≤ sizeLine + 1 := by rw [Array.size_append]; exact hs2
    wp_walk using (wpAny_updateSeq hl rfl (hz := hs1) (_hz' := hz')), wpAny_loadPart' hl, wpAny_loadPart' hb; exact ⟨_, rfl, h⟩
def rExtT (K : PySem.W.Frag) : V → List V → Hp → VK → Prop := fun x vs H Q => ∃ l b xs zs, x = .ref l ∧ vs = [.ref b] ∧ H l = some (.lst xs) ∧ SqT K H b zs ∧ xs.length + zs.length ≤ sizeLine ∧ Q .non (upd H l (.lst (xs ++ zs)))
section
variable {X : Cx}
theorem mt_extT : MtM X "list.extend" (rExtT X.K) := by
  intro pins s σ H x vs v us Q I rx rv h
  obtain ⟨l, b, xs, zs, rfl, rfl, hH, hB, hz, q⟩ := h
  cases rx
  obtain ⟨u, rfl, ru⟩ := rv.one
  cases ru
  obtain ⟨z, its, n, r, hl, e⟩ := I.lstM hH
  obtain ⟨its2, r2, ⟨⟨cls, dd, data, sl⟩, ho, hc, n2, hd⟩, hs⟩ := I.tuple hB
  simp only at hc hd
  subst hc hd
  have hl2 := r2.length
  have hsz : its.toArray.size + its2.toArray.size ≤ sizeLine := by rw [List.size_toArray, List.size_toArray]; omega
  have hlong : ¬ (!its.toArray.isEmpty && Builtin.List.listTooLong (its.toArray.size + its2.toArray.size)) = true := by
    rw [notLongL hsz, Bool.and_false]
    exact Bool.false_ne_true
  refine call_meets F.slot_list_extend ⟨_, e, rfl⟩ F.entry_list_extend (F.args_list_extend_2 _ _)
    (list_extend_tup l its.toArray n b its2.toArray n2 dd sl hlong (by rw [List.size_toArray]; omega) (by omega)) ⟨e, ho, ?_⟩
  refine ⟨.non, _, I.lset (its' := its ++ its2) hH e (by simp) (r.append r2) ?_, rfl, q⟩
  rw [List.length_append]
  omega
/-- the i-th slot holds some def, whose promise is told where it is called -/
def tCallH (P : Program) (w : World) (K : PySem.W.Frag) (mg : Str → Option Value) (base : Heap) (k i : Nat) (t : TA) : TE := fun σ H Q => ∃ f sp, σ[i]? = some (some (.ref f)) ∧ Held P w K mg base k f sp ∧ t σ H fun vs H1 => sp vs H1 Q (fun _ _ _ => False)
variable {k i : Nat} {x : Str} {p pos : Pos} {e : Expr} {es : List Expr} {t : TA}
theorem pe_callHd (hr : Room k X.A) (hN : X.N[i]? = some x) (hv : Vis X.env.scope x) (ha : PA X (e :: es) t)
    (hdb : (x == ("__debug__" : Str)) = false := by decide) (hcd : (x == ("__classdict__" : Str)) = false := by decide)
    (he : starEach (e :: es) X.env = (false, eval e X.env) :: starEach es X.env := by rfl) (hpl : (backTo pos (starEach es X.env)).any (·.1) = false := by rfl) : PE X (.Call (.Name x p) (e :: es) [] pos) (tCallH X.prog X.w X.K X.mg X.base k i t) := by
  refine ⟨fun pins s σ H Q I h => ?_⟩
  obtain ⟨f, sp, hs, ⟨fd, ps, F, hk, hb⟩, ht⟩ := h
  refine (pe_callL (i := i) (f := f) (sp := sp) (dvs := []) (E := fun _ _ _ => False) F hr hN hv hk hb .nil (fun _ _ _ _ _ _ _ z => z.elim) ha hdb hcd he hpl).run pins s σ H Q I ⟨hs, ?_⟩
  have e0 : (fun (vs : List V) (H1 : Hp) => sp (vs ++ []) H1 Q (fun _ _ _ => False)) = fun vs H1 => sp vs H1 Q (fun _ _ _ => False) := by
    funext vs H1
    rw [List.append_nil]
  show t σ H (fun vs H1 => sp (vs ++ []) H1 Q (fun _ _ _ => False))
  rw [e0]
  exact ht
end
theorem Cal.held {P : Program} {w : World} {K : PySem.W.Frag} {mg : Str → Option Value} {base : Heap} {k : Nat} {x : Str} {ps : List Str} {sp : Sp} {f : Addr} (C : ∃ fd, FnOk P w K mg base (fun _ _ _ _ _ _ => False) k f fd ps sp ∧ PySem.W.keepIn K (.ref f) = true ∧ Binds K fd ps []) : Held P w K mg base k f sp := by
  obtain ⟨fd, h⟩ := C
  exact ⟨fd, ps, h⟩
end FC
set_option Elab.async false
set_option linter.all false
set_option maxRecDepth 100000
set_option maxHeartbeats 4000000
/-! tuple * int, by 0 and by 1 too. -/
namespace FC
open PySem PySem.Spec PyProof.Rows L2
theorem tuple_mul1 (l : Addr) (items : Array Value) (n : Nat) (dd : Option Addr) (sl : Array (Option Value)) (u : Tok) :
    Meets (Builtin.«tuple.__mul__» ⟨[.ref l, .int 1 u], []⟩) (fun _ R s => s.heap.get? l = some { cls := .type "tuple", dict := dd, data := .seq items n, slots := sl } ∧ R (.ok (.ret (Value.ref l))) s) :=
  .of_wp fun prog w A R s h => by
    obtain ⟨hp, g, d, tk, os⟩ := s
    obtain ⟨hl, h⟩ := h
    have f1 := AutoSeq1.idx_int
    have c0 : (decide ((1 : Int) < -(2 ^ 63)) || decide ((1 : Int) ≥ 2 ^ 63)) = false := by decide
    have c1 : (items.isEmpty || (1 : Int) == 1) = true := by rw [show ((1 : Int) == 1) = true from rfl, Bool.or_true]
    wp_walk using wpAny_loadPart' hl
    repeat (first
      | (refine wpAny_ite_false (decide_eq_false (by rw [c0]; exact Bool.false_ne_true)) ?_; wp_walk using wpAny_loadPart' hl)
      | (refine wpAny_ite_true (decide_eq_true c1) ?_; wp_walk using wpAny_loadPart' hl))
    exact ⟨_, rfl, h⟩
theorem tuple_mul0 (l : Addr) (items : Array Value) (n : Nat) (dd : Option Addr) (sl : Array (Option Value)) (u : Tok) (hne : items.isEmpty = false) :
    Meets (Builtin.«tuple.__mul__» ⟨[.ref l, .int 0 u], []⟩) (fun _ R s => s.heap.get? l = some { cls := .type "tuple", dict := dd, data := .seq items n, slots := sl } ∧
      R (.ok (.ret (Value.ref s.heap.objs.size))) { s with heap := s.heap.push { cls := Value.type "tuple", data := Data.seq #[] }, toks := s.toks }) :=
  .of_wp fun prog w A R s h => by
    obtain ⟨hp, g, d, tk, os⟩ := s
    obtain ⟨hl, h⟩ := h
    have f1 := AutoSeq1.idx_int
    have c0 : (decide ((0 : Int) < -(2 ^ 63)) || decide ((0 : Int) ≥ 2 ^ 63)) = false := by decide
    have c1 : (items.isEmpty || (0 : Int) == 1) = false := by rw [hne]; rfl
    have c2 : (decide ((0 : Int) ≤ 0) || items.isEmpty) = true := by rw [hne]; rfl
    have hsz : ((#[] : Array Value)).size ≤ sizeLine := Nat.zero_le _
    wp_walk using wpAny_loadPart' hl
    repeat (first
      | (refine wpAny_ite_false (decide_eq_false (by rw [c0]; exact Bool.false_ne_true)) ?_; wp_walk using wpAny_loadPart' hl)
      | (refine wpAny_ite_false (decide_eq_false (by rw [c1]; exact Bool.false_ne_true)) ?_; wp_walk using wpAny_loadPart' hl)
      | (refine wpAny_ite_true (decide_eq_true c2) ?_; wp_walk using wpAny_loadPart' hl)
      | (refine wpAny_ite_false (decide_eq_false (Nat.not_lt.mpr hsz)) ?_; wp_walk using wpAny_loadPart' hl))
    exact ⟨_, rfl, h⟩
/-- t * k -/
def rRepA (K : PySem.W.Frag) : R2 := fun x y H Q => ∃ l k xs, x = .ref l ∧ y = .int k ∧ SqT K H l xs ∧ xs ≠ [] ∧ 0 ≤ k ∧ k ≤ 1000 ∧ xs.length ≤ 1000 ∧ (k = 1 → Q (.ref l) H) ∧ (k ≠ 1 → ∀ p, H p = none → Q (.ref p) (upd H p (.tup (List.replicate k.toNat xs).flatten)))
section
variable {X : Cx}
theorem op_repA : OpR X (binaryOp .Mult) (rRepA X.K) := by
  intro pins s σ H x y v u Q I rx ry h
  obtain ⟨l, k, xs, rfl, rfl, hT, hne, h1, h2, hz, q1, q2⟩ := h
  by_cases hk : 2 ≤ k
  · exact op_repT pins s σ H _ _ v u Q I rx ry ⟨l, k, xs, rfl, rfl, hT, hne, hk, h2, hz, q2 (by omega)⟩
  cases rx
  obtain ⟨t, rfl⟩ := ry
  obtain ⟨its, r, ⟨⟨cls, dd, data, sl⟩, ho, hc, n, hd⟩, hs⟩ := I.tuple hT
  simp only at hc hd
  subst hc hd
  have hle : its.length = xs.length := r.length.symm
  have hn : its ≠ [] := fun e => hne (by
    rw [e] at hle
    exact List.eq_nil_of_length_eq_zero hle.symm)
  have hi : its.toArray.isEmpty = false := by
    cases its with
    | nil => exact absurd rfl hn
    | cons a b => rfl
  by_cases hk1 : k = 1
  · subst hk1
    refine wpAny_binaryOp_repeat_ref (T := "tuple") (U := "int") (by decide) ⟨_, ho, rfl⟩ (fun s' => typeIs_int s' 1 t) noFill_tuple_mul F.fills_int_mul F.slot_int_rmul repeat_tuple F.slot_int_index.lookup
      (call_meets F.slot_int_rmul (typeIs_int s 1 t) F.entry_int_rmul (F.args_int_rmul_2 _ _) (int_rmul_tuple 1 t l its.toArray n dd sl)
        ⟨ho, rfl, ⟨_, ho, rfl⟩, call_meets F.slot_tuple_mul ⟨_, ho, rfl⟩ F.entry_tuple_mul (F.args_tuple_mul_2 _ _) (tuple_mul1 l its.toArray n dd sl t) ⟨ho, ?_⟩⟩)
    exact ⟨.ref l, H, I, rfl, q1 rfl⟩
  · obtain rfl : k = 0 := by omega
    refine wpAny_binaryOp_repeat_ref (T := "tuple") (U := "int") (by decide) ⟨_, ho, rfl⟩ (fun s' => typeIs_int s' 0 t) noFill_tuple_mul F.fills_int_mul F.slot_int_rmul repeat_tuple F.slot_int_index.lookup
      (call_meets F.slot_int_rmul (typeIs_int s 0 t) F.entry_int_rmul (F.args_int_rmul_2 _ _) (int_rmul_tuple 0 t l its.toArray n dd sl)
        ⟨ho, rfl, ⟨_, ho, rfl⟩, call_meets F.slot_tuple_mul ⟨_, ho, rfl⟩ F.entry_tuple_mul (F.args_tuple_mul_2 _ _) (tuple_mul0 l its.toArray n dd sl t hi) ⟨ho, ?_⟩⟩)
    refine ⟨.ref s.heap.objs.size, _, I.laid (t' := s.toks) (o := .tup []) (fun b ob q => Heap.get?_push_of_some _ q) (Nat.le_refl _) ?_, rfl, q2 (by decide) _ (I.hok.fresh (Nat.le_refl _))⟩
    exact ⟨Nat.zero_le _, _, .nil, IsTup.new _ _⟩
end
end FC
namespace FC
open PySem L2
abbrev sIsNumber : Stmt := top 24
abbrev sCheckRow : Stmt := top 25
abbrev sGvLine : Stmt := top 28
abbrev sGvTurn : Stmt := top 29
abbrev sGvKeep : Stmt := top 30
abbrev sGvEvery : Stmt := top 31
abbrev sGvTwice : Stmt := top 32
abbrev sGvSums : Stmt := top 33
abbrev sGvAnew : Stmt := top 34
abbrev sGvGaps : Stmt := top 35
abbrev sGvGroups : Stmt := top 36
abbrev sGvCount : Stmt := top 37
abbrev sStartP : Stmt := top 39
abbrev sAdvance : Stmt := top 40
abbrev sPassT : Stmt := top 41
abbrev sRunP : Stmt := top 42
abbrev sRunOn : Stmt := top 43
abbrev sFeed : Stmt := top 45
abbrev sMix : Stmt := top 86
abbrev sRightN : Stmt := top 98
end FC
set_option Elab.async false
set_option linter.all false
set_option maxRecDepth 100000
/-! What steps and chains give, number by number, in plain Lean. -/
namespace FC
open PySem L2
inductive Stp where
  | line (a b : Int)
  | turn (m r a b : Int)
  | keep (m r : Int)
  | every (k r : Int)
  | twice
  | sums
  | anew (m r : Int)
  | gaps
  | groups (k : Int)
  | count
def Stp.name : Stp → Str
  | .line _ _ => "line"
  | .turn _ _ _ _ => "turn"
  | .keep _ _ => "keep"
  | .every _ _ => "every"
  | .twice => "twice"
  | .sums => "sums"
  | .anew _ _ => "anew"
  | .gaps => "gaps"
  | .groups _ => "groups"
  | .count => "count"
def Stp.args : Stp → List Int
  | .line a b => [a, b]
  | .turn m r a b => [m, r, a, b]
  | .keep m r => [m, r]
  | .every k r => [k, r]
  | .twice => []
  | .sums => []
  | .anew m r => [m, r]
  | .gaps => []
  | .groups k => [k]
  | .count => []
def Stp.v (p : Stp) : List V := .str p.name :: p.args.map V.int
def two3 (m : Int) : Prop := m = 2 ∨ m = 3
def Stp.ok : Stp → Prop
  | .line a b => -3 ≤ a ∧ a ≤ 3 ∧ -9 ≤ b ∧ b ≤ 9
  | .turn m r a b => two3 m ∧ 0 ≤ r ∧ r < m ∧ -3 ≤ a ∧ a ≤ 3 ∧ -9 ≤ b ∧ b ≤ 9
  | .keep m r => two3 m ∧ 0 ≤ r ∧ r < m
  | .every k r => two3 k ∧ 0 ≤ r ∧ r < k
  | .twice => True
  | .sums => True
  | .anew m r => two3 m ∧ 0 ≤ r ∧ r < m
  | .gaps => True
  | .groups k => two3 k
  | .count => True
/-- the place from which anew sums, in the numbers till now -/
def lastHit (m r : Int) (ns : List Int) : Nat := ((List.range ns.length).filter fun i => decide ((ns.getD i 0 - r) % m = 0)).getLastD 0
/-- what a step gives for x behind the numbers pre -/
def Stp.out (p : Stp) (pre : List Int) (x : Int) : List Int := match p with
  | .line a b => [a * x + b]
  | .turn m r a b => [if (x - r) % m = 0 then a * x + b else x]
  | .keep m r => if (x - r) % m = 0 then [x] else []
  | .every k r => if (pre.length : Int) % k = r then [x] else []
  | .twice => [x, x]
  | .sums => [(pre ++ [x]).sum]
  | .anew m r => [((pre ++ [x]).drop (lastHit m r (pre ++ [x]))).sum]
  | .gaps => [x - pre.getLastD 0]
  | .groups k => if ((pre.length : Int) + 1) % k = 0 then [((pre ++ [x]).drop (pre.length + 1 - k.toNat)).sum] else []
  | .count => [(pre.length : Int) + 1]
/-- .. for some numbers, one by one -/
def Stp.each (p : Stp) : List Int → List Int → List (List Int)
  | _, [] => []
  | pre, x :: r => p.out pre x :: p.each (pre ++ [x]) r
def Stp.outs (p : Stp) (pre xs : List Int) : List Int := (p.each pre xs).flatten
theorem Stp.each_append (p : Stp) : ∀ (xs pre ys : List Int), p.each pre (xs ++ ys) = p.each pre xs ++ p.each (pre ++ xs) ys
  | [], pre, ys => by rw [List.nil_append, List.append_nil]; rfl
  | x :: r, pre, ys => by
    show p.out pre x :: p.each (pre ++ [x]) (r ++ ys) = p.out pre x :: (p.each (pre ++ [x]) r ++ p.each (pre ++ x :: r) ys)
    rw [Stp.each_append p r, List.append_assoc]
    rfl
theorem Stp.outs_append (p : Stp) (xs pre ys : List Int) : p.outs pre (xs ++ ys) = p.outs pre xs ++ p.outs (pre ++ xs) ys := by
  unfold Stp.outs
  rw [Stp.each_append, List.flatten_append]
theorem Stp.each_length (p : Stp) : ∀ (xs pre : List Int), (p.each pre xs).length = xs.length
  | [], _ => rfl
  | x :: r, pre => by
    show (p.each (pre ++ [x]) r).length + 1 = r.length + 1
    rw [Stp.each_length p r]
theorem Stp.each_get (p : Stp) : ∀ (xs pre : List Int) (i : Nat) (x : Int), xs[i]? = some x → (p.each pre xs)[i]? = some (p.out (pre ++ xs.take i) x)
  | [], _, i, x, h => by simp at h
  | y :: r, pre, 0, x, h => by
    have h : y = x := by simpa using h
    rw [h, List.take_zero, List.append_nil]
    rfl
  | y :: r, pre, i + 1, x, h => by
    have h : r[i]? = some x := by simpa using h
    have := Stp.each_get p r (pre ++ [y]) i x h
    show (p.each (pre ++ [y]) r)[i]? = _
    rw [this, List.take_succ_cons, List.append_assoc]
    rfl
theorem Stp.out_len (p : Stp) (pre : List Int) (x : Int) : (p.out pre x).length ≤ 2 := by
  cases p <;> simp only [Stp.out] <;> (try split) <;> simp
theorem flat_len {n : Nat} : ∀ {l : List (List Int)}, (∀ g ∈ l, g.length ≤ n) → l.flatten.length ≤ n * l.length
  | [], _ => by simp
  | g :: r, h => by
    rw [List.flatten_cons, List.length_append, List.length_cons, Nat.mul_succ]
    have h1 := h g (by simp)
    have h2 := flat_len (l := r) fun z hz => h z (List.mem_cons_of_mem _ hz)
    omega
theorem Stp.each_mem (p : Stp) : ∀ (xs pre : List Int), ∀ g ∈ p.each pre xs, g.length ≤ 2
  | [], _, g, h => by cases h
  | x :: r, pre, g, h => by
    rcases List.mem_cons.mp h with e | e
    · rw [e]
      exact p.out_len pre x
    · exact Stp.each_mem p r _ g e
theorem Stp.outs_len (p : Stp) (pre xs : List Int) : (p.outs pre xs).length ≤ 2 * xs.length := by
  have := flat_len (p.each_mem xs pre)
  rw [p.each_length] at this
  exact this
/-! ### blocks: what comes from each number of a row -/
def blkStep (p : Stp) : List Int → List (List Int) → List (List Int)
  | _, [] => []
  | pre, b :: r => p.outs pre b :: blkStep p (pre ++ b) r
def ownersOf : Nat → List (List Int) → List Int
  | _, [] => []
  | k, b :: r => List.replicate b.length (k : Int) ++ ownersOf (k + 1) r
def givenB (cs : List Stp) (row : List Int) : List (List Int) := cs.foldl (fun bs p => blkStep p [] bs) (row.map fun x => [x])
def runM (cs : List Stp) (row : List Int) : List Int := (givenB cs row).flatten
theorem blk_len (p : Stp) : ∀ (bs : List (List Int)) (pre : List Int), (blkStep p pre bs).length = bs.length
  | [], _ => rfl
  | b :: r, pre => by
    show (blkStep p (pre ++ b) r).length + 1 = r.length + 1
    rw [blk_len p r]
theorem blk_flat (p : Stp) : ∀ (bs : List (List Int)) (pre : List Int), (blkStep p pre bs).flatten = p.outs pre bs.flatten
  | [], _ => rfl
  | b :: r, pre => by
    show p.outs pre b ++ (blkStep p (pre ++ b) r).flatten = p.outs pre (b ++ r.flatten)
    rw [blk_flat p r, Stp.outs_append]
theorem blk_append (p : Stp) : ∀ (bs ds : List (List Int)) (pre : List Int), blkStep p pre (bs ++ ds) = blkStep p pre bs ++ blkStep p (pre ++ bs.flatten) ds
  | [], ds, pre => by rw [List.nil_append, List.flatten_nil, List.append_nil]; rfl
  | b :: r, ds, pre => by
    show p.outs pre b :: blkStep p (pre ++ b) (r ++ ds) = p.outs pre b :: (blkStep p (pre ++ b) r ++ blkStep p (pre ++ (b ++ r.flatten)) ds)
    rw [blk_append p r, List.append_assoc]
theorem given_len (cs : List Stp) (row : List Int) : (givenB cs row).length = row.length := by
  unfold givenB
  have : ∀ (cs : List Stp) (bs : List (List Int)), (cs.foldl (fun bs p => blkStep p [] bs) bs).length = bs.length := fun cs => by
    induction cs with
    | nil => exact fun _ => rfl
    | cons p r ih => exact fun bs => by rw [List.foldl_cons, ih, blk_len]
  rw [this, List.length_map]
theorem sing_flat (row : List Int) : (row.map fun x => [x]).flatten = row := by
  induction row with
  | nil => rfl
  | cons x r ih => rw [List.map_cons, List.flatten_cons, ih]; rfl
theorem run_nil (row : List Int) : runM [] row = row := sing_flat row
/-- the whole row, step by step -/
theorem run_steps (cs : List Stp) (row : List Int) : runM cs row = cs.foldl (fun ns p => p.outs [] ns) row := by
  have key : ∀ (cs : List Stp) (bs : List (List Int)), (cs.foldl (fun bs p => blkStep p [] bs) bs).flatten = cs.foldl (fun ns p => p.outs [] ns) bs.flatten := fun cs => by
    induction cs with
    | nil => exact fun _ => rfl
    | cons p r ih => exact fun bs => by rw [List.foldl_cons, List.foldl_cons, ih, blk_flat]
  unfold runM givenB
  rw [key, sing_flat]
theorem run_len (cs : List Stp) (row : List Int) : (runM cs row).length ≤ 2 ^ cs.length * row.length := by
  rw [run_steps]
  have key : ∀ (cs : List Stp) (ns : List Int), (cs.foldl (fun ns p => p.outs [] ns) ns).length ≤ 2 ^ cs.length * ns.length := fun cs => by
    induction cs with
    | nil => exact fun ns => by simp
    | cons p r ih =>
      intro ns
      rw [List.foldl_cons, List.length_cons]
      have h1 := ih (p.outs [] ns)
      have h2 := p.outs_len [] ns
      have h3 : 2 ^ r.length * (p.outs [] ns).length ≤ 2 ^ r.length * (2 * ns.length) := Nat.mul_le_mul (Nat.le_refl _) h2
      have h4 : 2 ^ (r.length + 1) * ns.length = 2 ^ r.length * (2 * ns.length) := by rw [Nat.pow_succ, Nat.mul_assoc]
      omega
  exact key cs row
/-- what a chain gives for x behind a row, step by step -/
def newM : List Stp → List Int → List Int → List Int
  | [], _, xs => xs
  | p :: cs, row, xs => newM cs (p.outs [] row) (p.outs row xs)
theorem given_snoc (cs : List Stp) (row : List Int) (x : Int) : givenB cs (row ++ [x]) = givenB cs row ++ [newM cs row [x]] := by
  have key : ∀ (cs : List Stp) (bs : List (List Int)) (xs : List Int), cs.foldl (fun bs p => blkStep p [] bs) (bs ++ [xs]) = cs.foldl (fun bs p => blkStep p [] bs) bs ++ [newM cs bs.flatten xs] := fun cs => by
    induction cs with
    | nil => exact fun _ _ => rfl
    | cons p r ih =>
      intro bs xs
      rw [List.foldl_cons, List.foldl_cons, blk_append]
      show r.foldl _ (blkStep p [] bs ++ [p.outs ([] ++ bs.flatten) xs]) = _
      rw [ih, blk_flat, List.nil_append]
      rfl
  unfold givenB
  rw [List.map_append, List.map_cons, List.map_nil, key, sing_flat]
theorem run_snoc (cs : List Stp) (row : List Int) (x : Int) : runM cs (row ++ [x]) = runM cs row ++ newM cs row [x] := by
  unfold runM
  rw [given_snoc, List.flatten_append]
  simp
end FC
set_option Elab.async false
set_option linter.all false
set_option maxRecDepth 100000
/-! What a step holds between two numbers, in plain Lean. -/
namespace FC
open PySem L2
/-- what a step holds behind some numbers: a place and a total -/
def Stp.held (p : Stp) (pre : List Int) : Int × Int := match p with
  | .every k _ => ((pre.length : Int) % k, 0)
  | .sums => (0, pre.sum)
  | .anew m r => (0, (pre.drop (lastHit m r pre)).sum)
  | .gaps => (0, pre.getLastD 0)
  | .groups k => ((pre.length : Int) % k, (pre.drop (pre.length - pre.length % k.toNat)).sum)
  | .count => (0, (pre.length : Int))
  | _ => (0, 0)
theorem held_nil (p : Stp) : p.held [] = (0, 0) := by
  cases p <;> simp [Stp.held]
theorem rem_iff {x m r : Int} (hm : two3 m) (h0 : 0 ≤ r) (h1 : r < m) : (x - r) % m = 0 ↔ x % m = r := by
  unfold two3 at hm
  rcases hm with rfl | rfl <;> omega
theorem sum_snoc (l : List Int) (x : Int) : (l ++ [x]).sum = l.sum + x := by
  rw [List.sum_append]
  simp
theorem every_next {n k : Int} (hk : two3 k) : (n % k + 1) % k = (n + 1) % k := by
  unfold two3 at hk
  rcases hk with rfl | rfl <;> omega
theorem lastHit_le (m r : Int) (ns : List Int) : lastHit m r ns ≤ ns.length := by
  unfold lastHit
  cases h : ((List.range ns.length).filter fun i => decide ((ns.getD i 0 - r) % m = 0)) with
  | nil => simp
  | cons a t =>
    have hm : (a :: t).getLastD 0 ∈ a :: t := by
      have e : (a :: t).getLastD 0 = (a :: t).getLast (by simp) := by simp [List.getLastD_eq_getLast?, List.getLast?_eq_some_getLast]
      rw [e]
      exact List.getLast_mem _
    rw [← h] at hm
    have := List.mem_range.mp (List.mem_filter.mp hm).1
    rw [h] at this
    omega
theorem lastHit_snoc (m r : Int) (pre : List Int) (x : Int) : lastHit m r (pre ++ [x]) = if (x - r) % m = 0 then pre.length else lastHit m r pre := by
  unfold lastHit
  rw [List.length_append, List.length_singleton, List.range_succ, List.filter_append]
  have e1 : ((List.range pre.length).filter fun i => decide (((pre ++ [x]).getD i 0 - r) % m = 0)) = ((List.range pre.length).filter fun i => decide ((pre.getD i 0 - r) % m = 0)) := by
    refine List.filter_congr fun i hi => ?_
    have hi := List.mem_range.mp hi
    have : (pre ++ [x]).getD i 0 = pre.getD i 0 := by
      rw [List.getD_eq_getElem?_getD, List.getD_eq_getElem?_getD, List.getElem?_append_left hi]
    rw [this]
  have e2 : (pre ++ [x]).getD pre.length 0 = x := by
    rw [List.getD_eq_getElem?_getD, List.getElem?_append_right (Nat.le_refl _)]
    simp
  rw [e1]
  by_cases h : (x - r) % m = 0
  · rw [if_pos h]
    have : ([pre.length].filter fun i => decide (((pre ++ [x]).getD i 0 - r) % m = 0)) = [pre.length] := by
      rw [List.filter_cons, e2, decide_eq_true h]
      rfl
    rw [this]
    simp
  · rw [if_neg h]
    have : ([pre.length].filter fun i => decide (((pre ++ [x]).getD i 0 - r) % m = 0)) = [] := by
      rw [List.filter_cons, e2, decide_eq_false h]
      rfl
    rw [this, List.append_nil]
theorem anew_snoc (m r : Int) (pre : List Int) (x : Int) : ((pre ++ [x]).drop (lastHit m r (pre ++ [x]))).sum = (if (x - r) % m = 0 then 0 else (pre.drop (lastHit m r pre)).sum) + x := by
  rw [lastHit_snoc]
  by_cases h : (x - r) % m = 0
  · rw [if_pos h, if_pos h, List.drop_left]
    simp
  · rw [if_neg h, if_neg h, List.drop_append_of_le_length (lastHit_le m r pre), sum_snoc]
theorem groups_low {k : Int} (hk : two3 k) {pre : List Int} {x : Int} (h : (pre.length : Int) % k + 1 < k) : ((pre.length : Int) + 1) % k ≠ 0 ∧ ((pre.length : Int) + 1) % k = (pre.length : Int) % k + 1 ∧
    ((pre ++ [x]).drop ((pre ++ [x]).length - (pre ++ [x]).length % k.toNat)).sum = (pre.drop (pre.length - pre.length % k.toNat)).sum + x := by
  rw [List.length_append, List.length_singleton]
  have e : (pre.length + 1) - (pre.length + 1) % k.toNat = pre.length - pre.length % k.toNat := by
    unfold two3 at hk
    rcases hk with rfl | rfl
    · show (pre.length + 1) - (pre.length + 1) % 2 = pre.length - pre.length % 2
      omega
    · show (pre.length + 1) - (pre.length + 1) % 3 = pre.length - pre.length % 3
      omega
  rw [e, List.drop_append_of_le_length (Nat.sub_le _ _), sum_snoc]
  refine ⟨?_, ?_, rfl⟩ <;> (unfold two3 at hk; rcases hk with rfl | rfl <;> omega)
theorem groups_high {k : Int} (hk : two3 k) {pre : List Int} {x : Int} (h : ¬ (pre.length : Int) % k + 1 < k) : ((pre.length : Int) + 1) % k = 0 ∧
    ((pre ++ [x]).drop (pre.length + 1 - k.toNat)).sum = (pre.drop (pre.length - pre.length % k.toNat)).sum + x ∧ ((pre ++ [x]).drop ((pre ++ [x]).length - (pre ++ [x]).length % k.toNat)).sum = 0 := by
  rw [List.length_append, List.length_singleton]
  have e : pre.length + 1 - k.toNat = pre.length - pre.length % k.toNat ∧ (pre.length + 1) % k.toNat = 0 := by
    unfold two3 at hk
    rcases hk with rfl | rfl
    · show (pre.length + 1) - 2 = pre.length - pre.length % 2 ∧ (pre.length + 1) % 2 = 0
      omega
    · show (pre.length + 1) - 3 = pre.length - pre.length % 3 ∧ (pre.length + 1) % 3 = 0
      omega
  rw [e.1, e.2, List.drop_append_of_le_length (Nat.sub_le _ _), sum_snoc, Nat.sub_zero]
  have e2 : (pre ++ [x]).drop (pre.length + 1) = [] := List.drop_eq_nil_of_le (by rw [List.length_append, List.length_singleton]; exact Nat.le_refl _)
  rw [e2]
  refine ⟨?_, rfl, rfl⟩
  unfold two3 at hk
  rcases hk with rfl | rfl <;> omega
theorem gaps_snoc (pre : List Int) (x : Int) : (pre ++ [x]).getLastD 0 = x := by simp
/-- some numbers through a step -/
theorem outs_cons (p : Stp) (pre : List Int) (x : Int) (r : List Int) : p.outs pre (x :: r) = p.out pre x ++ p.outs (pre ++ [x]) r := by
  unfold Stp.outs
  rw [Stp.each, List.flatten_cons]
theorem outs_snoc (p : Stp) (pre xs : List Int) (x : Int) : p.outs pre (xs ++ [x]) = p.outs pre xs ++ p.out (pre ++ xs) x := by
  rw [Stp.outs_append, outs_cons]
  unfold Stp.outs Stp.each
  simp
theorem newM_append (p : Stp) : ∀ (cs : List Stp) (row xs : List Int), newM (cs ++ [p]) row xs = p.outs (runM cs row) (newM cs row xs) := fun cs => by
  have key : ∀ (cs : List Stp) (row xs : List Int), newM (cs ++ [p]) row xs = p.outs (cs.foldl (fun ns p => p.outs [] ns) row) (newM cs row xs) := fun cs => by
    induction cs with
    | nil => exact fun row xs => rfl
    | cons q r ih =>
      intro row xs
      show newM (r ++ [p]) (q.outs [] row) (q.outs row xs) = _
      rw [ih]
      rfl
  intro row xs
  rw [run_steps]
  exact key cs row xs
theorem newM_len : ∀ (cs : List Stp) (row xs : List Int), (newM cs row xs).length ≤ 2 ^ cs.length * xs.length
  | [], _, xs => by simp [newM]
  | p :: r, row, xs => by
    have h1 := newM_len r (p.outs [] row) (p.outs row xs)
    have h2 := p.outs_len row xs
    show (newM r (p.outs [] row) (p.outs row xs)).length ≤ 2 ^ (r.length + 1) * xs.length
    have h3 : 2 ^ r.length * (p.outs row xs).length ≤ 2 ^ r.length * (2 * xs.length) := Nat.mul_le_mul (Nat.le_refl _) h2
    rw [Nat.pow_succ, Nat.mul_assoc]
    omega
theorem run_take_snoc (p : Stp) (cs : List Stp) (row : List Int) : runM (cs ++ [p]) row = p.outs [] (runM cs row) := by
  rw [run_steps, run_steps, List.foldl_append]
  rfl
end FC
set_option Elab.async false
set_option linter.all false
set_option maxRecDepth 100000
set_option maxHeartbeats 4000000
namespace FC
open PySem L2
/-! ### kinds of values, by isinstance -/
def kinds : List String := ["NoneType", "bool", "int", "str", "float", "list", "tuple", "dict", "bytes", "set"]
def Nice (K : PySem.W.Frag) (H : Hp) (x : V) : Prop := ∃ T, T ∈ kinds ∧ TyX K H x (.type T)
def isW : V → Bool
  | .int _ => true
  | _ => false
def isS : V → Bool
  | .str _ => true
  | _ => false
theorem kit_int : ∀ T ∈ kinds, kitB T "int" = some (T == "int" || T == "bool") := by decide +kernel
theorem kit_bool : ∀ T ∈ kinds, kitB T "bool" = some (T == "bool") := by decide +kernel
theorem kit_str : ∀ T ∈ kinds, kitB T "str" = some (T == "str") := by decide +kernel
theorem kit_tuple : ∀ T ∈ kinds, kitB T "tuple" = some (T == "tuple") := by decide +kernel
theorem tyX_isW {K : PySem.W.Frag} {H : Hp} {x : V} {u : Value} (t : TyX K H x u) : isW x = (u == .type "int") := by
  cases t with
  | base b => cases b <;> first | rfl | decide +kernel
  | _ => first | rfl | decide +kernel
theorem tyX_isS {K : PySem.W.Frag} {H : Hp} {x : V} {u : Value} (t : TyX K H x u) : isS x = (u == .type "str") := by
  cases t with
  | base b => cases b <;> first | rfl | decide +kernel
  | _ => first | rfl | decide +kernel
theorem ty_beq' (a b : String) : (Value.type a == Value.type b) = (a == b) := by
  have := ty_beq a b
  rw [this]
  by_cases h : a = b
  · subst h; simp
  · rw [decide_eq_false h]; exact (beq_eq_false_iff_ne.mpr h).symm
theorem isW_of {K : PySem.W.Frag} {H : Hp} {x : V} {T : String} (t : TyX K H x (.type T)) : isW x = (T == "int") := by rw [tyX_isW t, ty_beq']
theorem isS_of {K : PySem.W.Frag} {H : Hp} {x : V} {T : String} (t : TyX K H x (.type T)) : isS x = (T == "str") := by rw [tyX_isS t, ty_beq']
theorem tyX_same {K : PySem.W.Frag} {H H' : Hp} {x : V} {u : Value} (e : Same H H') (t : TyX K H x u) : TyX K H' x u := by
  cases t with
  | base b => cases b with
    | non => exact .base .non
    | bl x => exact .base (.bl x)
    | int x => exact .base (.int x)
    | str x => exact .base (.str x)
    | flt x => exact .base (.flt x)
    | lst h => exact .base (.lst (e _ _ h))
    | frz h => exact .base (.frz (e _ _ h))
    | tup h => exact .base (.tup (e _ _ h))
    | dK h => exact .base (.dK (e _ _ h))
    | dT h => exact .base (.dT (e _ _ h))
    | ins h a b c d f => exact .base (.ins (e _ _ h) a b c d f)
  | byt b => exact .byt b
  | set h => exact .set (e _ _ h)
  | kList h c => exact .kList h c
  | kTuple h c => exact .kTuple h c
  | kDict h c => exact .kDict h c
  | fTuple h => exact .fTuple (e _ _ h)
  | fDict h => exact .fDict (e _ _ h)
theorem Nice.same {K : PySem.W.Frag} {H H' : Hp} {x : V} (e : Same H H') (n : Nice K H x) : Nice K H' x := by
  obtain ⟨T, h, t⟩ := n
  exact ⟨T, h, tyX_same e t⟩
theorem Nice.non {K : PySem.W.Frag} {H : Hp} : Nice K H .non := ⟨_, by decide, .base .non⟩
theorem Nice.bl {K : PySem.W.Frag} {H : Hp} (b : Bool) : Nice K H (.bl b) := ⟨_, by decide, .base (.bl b)⟩
theorem Nice.int {K : PySem.W.Frag} {H : Hp} (i : Int) : Nice K H (.int i) := ⟨_, by decide, .base (.int i)⟩
theorem Nice.str {K : PySem.W.Frag} {H : Hp} (z : Str) : Nice K H (.str z) := ⟨_, by decide, .base (.str z)⟩
theorem ty_tup {K : PySem.W.Frag} {H : Hp} {a : Addr} {xs : List V} (h : SqT K H a xs) : TyX K H (.ref a) (.type "tuple") := by
  rcases h with (h | ⟨o, h⟩) | ⟨o, its, n, h, c, _⟩
  · exact .base (.tup h)
  · exact .fTuple h
  · exact .kTuple h c
theorem Nice.tup {K : PySem.W.Frag} {H : Hp} {a : Addr} {xs : List V} (h : SqT K H a xs) : Nice K H (.ref a) := ⟨_, by decide, ty_tup h⟩
theorem sqt_same {K : PySem.W.Frag} {H H' : Hp} {a : Addr} {xs : List V} (e : Same H H') (h : SqT K H a xs) : SqT K H' a xs := by
  rcases h with (h | ⟨o, h⟩) | h
  · exact .inl (.inl (e _ _ h))
  · exact .inl (.inr ⟨o, e _ _ h⟩)
  · exact .inr h
theorem same_upd {H H' : Hp} {p : Addr} {o : HO} (e : Same H H') (h : H' p = none) : Same H (L2.upd H' p o) := fun b u q => by
  have q' := e b u q
  rw [upd_ne (ne_of_none q' h)]
  exact q'
def spIsWhole (K : PySem.W.Frag) : Sp := fun vs H Q _ => ∃ x, vs = [x] ∧ Nice K H x ∧ Q (.bl (isW x)) H
section
variable {P : Program} {w : World} {K : PySem.W.Frag} {mg : Str → Option Value} {base : Heap}
theorem scIsWhole : FnScope ["value"] ["value"] (defScope sIsWhole) := ⟨rfl, rfl, rfl, by decide +kernel, rfl, by decide +kernel, by decide +kernel⟩
theorem ok_isWhole {f : Addr} {fd : FuncData} (F : Fun K "is_whole" "is_whole" sIsWhole f fd) (T : Blt mg) : FnOk P w K mg base CX0 1 f fd ["value"] (spIsWhole K) := by
  refine F.ok scIsWhole (fun vs H Q E h => ?_) (fun cdv A outer s H vs Q E hr h => ?_)
  · obtain ⟨x, rfl, _⟩ := h
    rfl
  · obtain ⟨x, rfl, ⟨t, ht, hx⟩, k⟩ := h
    refine ⟨_, pss_one (ps_ret (pe_and (pe_callB call_isi (by rfl) T.isi (by decide +kernel) (pa_cons (pv 0) (pa_cons (pe_bltn (v := .ty "int") (by rfl) T.int (by decide +kernel) rfl) pa_nil)))
      (pe_one (pe_not (pe_callB call_isi (by rfl) T.isi (by decide +kernel) (pa_cons (pv 0) (pa_cons (pe_bltn (v := .ty "bool") (by rfl) T.bool (by decide +kernel) rfl) pa_nil))))))), ?_⟩
    refine ⟨_, rfl, _, _, _, _, _, rfl, .ty _, hx, kit_ty (kit_int t ht), _, rfl, ?_⟩
    have e := isW_of hx
    rw [e] at k
    refine ite2 (fun h => ?_) (fun h => ?_)
    · refine ⟨_, rfl, _, _, _, _, _, rfl, .ty _, hx, kit_ty (kit_bool t ht), _, rfl, ?_⟩
      have : (!(t == "bool")) = (t == "int") := by
        revert h
        exact (by decide : ∀ t ∈ kinds, (t == "int" || t == "bool") = true → (!(t == "bool")) = (t == "int")) t ht
      rw [this]
      exact k
    · have : (t == "int") = false := by
        revert h
        exact (by decide : ∀ t ∈ kinds, ¬ (t == "int" || t == "bool") = true → (t == "int") = false) t ht
      rw [this] at k
      exact k
end
end FC
set_option Elab.async false
set_option linter.all false
set_option maxRecDepth 100000
set_option maxHeartbeats 4000000
namespace FC
open PySem L2
def letters5 : List Str := ["a", "b", "m", "k", "r"]
def spWithin (K : PySem.W.Frag) : Sp := fun vs H Q _ => ∃ a b ls xs, vs = [.ref a, .ref b] ∧ SqT K H a (ls.map V.str) ∧ SqT K H b xs ∧ (∀ l ∈ ls, l ∈ letters5) ∧ (∀ x ∈ xs, Nice K H x) ∧
  ∀ H', Same H H' → Q (.bl (decide (ls.length = xs.length) && within ls xs 0)) H'
theorem bnd_of {l : Str} (h : l ∈ letters5) (hr : l ≠ "r") : ∃ p ∈ bnd, p.1 = l ∧ ∀ a, lohi l a = p.2 := by
  have all : ∀ l ∈ letters5, l ≠ "r" → ∃ p ∈ bnd, p.1 = l ∧ bnd.lookup l = some p.2 := by decide +kernel
  obtain ⟨p, h1, h2, h3⟩ := all l h hr
  refine ⟨p, h1, h2, fun a => ?_⟩
  unfold lohi
  rw [if_neg hr, h3]
  rfl
theorem within_cons {l : Str} {ls : List Str} {n : Int} {xs : List V} {a lo hi : Int} (el : lohi l a = (lo, hi)) : within (l :: ls) (.int n :: xs) a = (!(decide (n < lo) || decide (hi < n)) && within ls xs n) := by
  show (!(decide (n < (lohi l a).1) || decide ((lohi l a).2 < n)) && within ls xs n) = _
  rw [el]
theorem within_lt {l : Str} {ls : List Str} {n : Int} {xs : List V} {a lo hi : Int} (el : lohi l a = (lo, hi)) (h : decide (n < lo) = true) : within (l :: ls) (.int n :: xs) a = false := by
  rw [within_cons el, h]
  rfl
theorem within_gt {l : Str} {ls : List Str} {n : Int} {xs : List V} {a lo hi : Int} (el : lohi l a = (lo, hi)) (h : decide (hi < n) = true) : within (l :: ls) (.int n :: xs) a = false := by
  rw [within_cons el, h, Bool.or_true]
  rfl
theorem within_ok {l : Str} {ls : List Str} {n : Int} {xs : List V} {a lo hi : Int} (el : lohi l a = (lo, hi)) (h1 : ¬ decide (n < lo) = true) (h2 : ¬ decide (hi < n) = true) : within (l :: ls) (.int n :: xs) a = within ls xs n := by
  rw [within_cons el, eq_false_of_ne_true h1, eq_false_of_ne_true h2]
  rfl
section
variable {P : Program} {w : World} {K : PySem.W.Frag} {mg : Str → Option Value} {base : Heap}
theorem scWithin : FnScope ["letters", "numbers", "ahead", "letter", "number", "low", "high"] ["letters", "numbers"] (defScope sWithin) := ⟨rfl, rfl, rfl, by decide +kernel, rfl, by decide +kernel, by decide +kernel⟩
theorem ok_within {f dB : Addr} {fd : FuncData} (F : Fun K "are_within" "are_within" sWithin f fd) (T : Blt mg) (C : Cal P w K mg base CX0 1 "is_whole" ["value"] (spIsWhole K)) (mB : mg "BOUNDS" = some (.ref dB)) (B : BndT K w dB) :
    FnOk P w K mg base CX0 2 f fd ["letters", "numbers"] (spWithin K) := by
  refine F.ok scWithin (fun vs H Q E h => ?_) (fun cdv A outer s H vs Q E hr h => ?_)
  · obtain ⟨a, b, ls, xs, rfl, _⟩ := h
    rfl
  · obtain ⟨a, b, ls, xs, rfl, hls, hxs, hin, hpl, k⟩ := h
    have nd := scWithin.nd
    refine ⟨_, pss_cons (ps_if (pt_cmpR op_ne (pe_callB call_len (by rfl) T.len PySem.boot_len (pa_cons (pv 0) pa_nil)) (pe_callB call_len (by rfl) T.len PySem.boot_len (pa_cons (pv 1) pa_nil)) (nomark _)) (pss_one (ps_ret pe_bl)) pss_nil)
      (pss_cons (ps_set (i := 2) nd rfl (Or.inl rfl) pe_int)
      (pss_cons (ps_for PassesOwn.never rfl (RZ.pi_zipA (by rfl) T.zip (pa_cons (pv 0) (pa_cons (pv 1) pa_nil))) (pg_tup rfl (pgs_cons (pg_name (i := 3) nd rfl (Or.inl rfl)) (pgs_cons (pg_name (i := 4) nd rfl (Or.inl rfl)) pgs_nil)))
        (pss_cons (ps_if (pt_not (pt_val (pe_cal C hr pass0 (pa_cons (pv 4) pa_nil)))) (pss_one (ps_ret pe_bl)) pss_nil)
        (pss_cons (ps_asg (pe_ifExp (pt_cmpR op_eq (pv 3) pe_str (nomark _)) (pe_tup (pa_cons pe_int (pa_cons (pe_op op_sub (pv 2) pe_int) pa_nil))) (pe_ix ix_kdict (pe_glob (v := .ref dB) rfl mB rfl) (pv 3) (fun _ _ => rfl))) (pg_tup rfl (pgs_cons (pg_name (i := 5) nd rfl (Or.inl rfl)) (pgs_cons (pg_name (i := 6) nd rfl (Or.inl rfl)) pgs_nil))))
        (pss_cons (ps_if (PW.pt (pw_or (pt_cmp (pc_lt (pv 4) (pv 5))) (pw_or1 (pt_cmp (pc_gt (pv 4) (pv 6)))))) (pss_one (ps_ret pe_bl)) pss_nil)
        (pss_one (ps_set (i := 2) nd rfl (Or.inl rfl) (pv 4)))))))
      (pss_one (ps_ret pe_bl)))), ?_⟩
    -- the lengths
    refine ⟨_, rfl, _, (ls.map V.str).length, rfl, .inr ⟨_, hls, rfl⟩, _, rfl, _, xs.length, rfl, .inr ⟨_, hxs, rfl⟩, rfl, _, rfl, ?_⟩
    by_cases hl : ¬ ls.length = xs.length
    · have e : decide (V.int ((ls.map V.str).length : Nat) = V.int (xs.length : Nat)) = false := decide_eq_false fun z => hl (by injection z with z; rw [List.length_map] at z; omega)
      show if (!decide (V.int ((ls.map V.str).length : Nat) = V.int (xs.length : Nat))) = true then _ else _
      rw [e]
      refine iteT ?_
      have := k H (Same.refl H)
      rw [decide_eq_false hl] at this
      exact this
    replace hl : ls.length = xs.length := Decidable.not_not.mp hl
    have e : decide (V.int ((ls.map V.str).length : Nat) = V.int (xs.length : Nat)) = true := decide_eq_true (by rw [List.length_map, hl])
    show if (!decide (V.int ((ls.map V.str).length : Nat) = V.int (xs.length : Nat))) = true then _ else _
    rw [e]
    refine iteF ?_
    have k' : ∀ H', Same H H' → Q (.bl (within ls xs 0)) H' := fun H' z => by
      have := k H' z
      rw [decide_eq_true hl] at this
      exact this
    clear k e
    -- ahead = 0
    refine ⟨_, rfl, _, rfl, a, b, ls.map V.str, xs, rfl, .inr ⟨hls, hxs, RZ.for_zipT (K := K) (xs := ls.map V.str) (ys := xs) (by rw [List.length_map, hl])
      (fun i σ H2 => ∃ (ahead : Int) (v3 v4 v5 v6 : Option V), σ = [some (.ref a), some (.ref b), some (.int ahead), v3, v4, v5, v6] ∧ Same H H2 ∧ within (ls.drop i) (xs.drop i) ahead = within ls xs 0)
      ⟨0, none, none, none, none, rfl, Same.refl H, rfl⟩ (fun i σ H2 ⟨_, _, _, _, _, _, s2, _⟩ => ⟨sqt_same s2 hls, sqt_same s2 hxs⟩) ?_ ?_⟩⟩
    · rintro i x y T σ H2 hx hy ⟨ahead, v3, v4, v5, v6, rfl, s2, hw⟩ hT
      have hi : i < ls.length := by
        have := (List.getElem?_eq_some_iff.mp hx).1
        rwa [List.length_map] at this
      have hi2 : i < xs.length := (List.getElem?_eq_some_iff.mp hy).1
      obtain ⟨l, hl', rfl⟩ : ∃ l, ls[i]? = some l ∧ x = V.str l := by
        rw [List.getElem?_map] at hx
        cases e : ls[i]? with
        | none => rw [e] at hx; cases hx
        | some l => rw [e] at hx; exact ⟨l, rfl, (Option.some.inj hx).symm⟩
      have hlm : l ∈ ls := List.mem_of_getElem? hl'
      have hym : y ∈ xs := List.mem_of_getElem? hy
      have ed : ls.drop i = l :: ls.drop (i + 1) := by
        rw [List.drop_eq_getElem_cons hi]
        congr 1
        rw [List.getElem?_eq_getElem hi] at hl'
        exact Option.some.inj hl'
      have ed2 : xs.drop i = y :: xs.drop (i + 1) := by
        rw [List.drop_eq_getElem_cons hi2]
        congr 1
        rw [List.getElem?_eq_getElem hi2] at hy
        exact Option.some.inj hy
      rw [ed, ed2] at hw
      have s3 : Same H (upd H2 T (.tup [V.str l, y])) := same_upd s2 hT
      refine ⟨T, [V.str l, y], rfl, SqT.of upd_same, rfl, _, _, rfl, _, _, rfl, rfl, ?_⟩
      -- is_whole(number)
      refine ⟨_, rfl, y, rfl, (hpl y hym).same s3, _, rfl, ?_⟩
      by_cases hW : isW y = false
      · rw [hW]
        refine iteT ?_
        have k0 : within (l :: ls.drop (i + 1)) (y :: xs.drop (i + 1)) ahead = false := by
          cases y <;> first | rfl | cases hW
        have := k' _ s3
        rw [← hw, k0] at this
        exact this
      · obtain ⟨n, rfl⟩ : ∃ n, y = V.int n := by
          cases y <;> first | exact ⟨_, rfl⟩ | exact absurd rfl hW
        refine iteF ?_
        -- low, high
        refine ⟨_, rfl, rfl, _, rfl, ?_⟩
        refine ite2 (fun er => ?_) (fun er => ?_)
        · have er : l = "r" := by
            have := of_decide_eq_true er
            injection this
          have el : lohi l ahead = (0, ahead - 1) := by unfold lohi; rw [if_pos er]
          refine ⟨_, rfl, _, _, rfl, rfl, (by show 2 ≤ sizeLine; decide), fun p np => ⟨p, _, rfl, SqT.of upd_same, rfl, _, _, rfl, _, _, rfl, rfl, ?_⟩⟩
          have s4 := same_upd (o := .tup [.int 0, .int (ahead - 1)]) s3 np
          refine ⟨_, rfl, _, rfl, _, _, rfl, rfl, _, rfl, ?_⟩
          refine ite2 (fun h1 => ?_) (fun h1 => ?_)
          · refine iteT ?_
            have := k' _ s4
            rw [← hw, within_lt el h1] at this
            exact this
          refine ⟨_, rfl, _, rfl, _, _, rfl, rfl, _, rfl, ?_⟩
          refine ite2 (fun h2 => ?_) (fun h2 => ?_)
          · have := k' _ s4
            rw [← hw, within_gt el h2] at this
            exact this
          -- ahead = number
          exact ⟨_, rfl, n, _, _, _, _, rfl, s4, by rw [← hw, within_ok el h1 h2]⟩
        · have er : l ≠ "r" := fun z => er (decide_eq_true (by rw [z]))
          obtain ⟨q, hq, hq1, hq2⟩ := bnd_of (hin l hlm) er
          obtain ⟨es, nn, kd⟩ := B.kd
          obtain ⟨c, hc1, hc2⟩ := B.at_ q hq
          rw [hq1] at hc1
          have el : lohi l ahead = (q.2.1, q.2.2) := hq2 ahead
          refine ⟨_, rfl, dB, l, .ref c, rfl, rfl, ⟨es, nn, _, kd.at_, kd.lit, hc1, rfl⟩, ⟨c, _, rfl, hc2 _, rfl, _, _, rfl, _, _, rfl, rfl, ?_⟩⟩
          have s4 := s3
          refine ⟨_, rfl, _, rfl, _, _, rfl, rfl, _, rfl, ?_⟩
          refine ite2 (fun h1 => ?_) (fun h1 => ?_)
          · refine iteT ?_
            have := k' _ s4
            rw [← hw, within_lt el h1] at this
            exact this
          refine ⟨_, rfl, _, rfl, _, _, rfl, rfl, _, rfl, ?_⟩
          refine ite2 (fun h2 => ?_) (fun h2 => ?_)
          · have := k' _ s4
            rw [← hw, within_gt el h2] at this
            exact this
          -- ahead = number
          exact ⟨_, rfl, n, _, _, _, _, rfl, s4, by rw [← hw, within_ok el h1 h2]⟩
    · rintro σ H2 ⟨ahead, v3, v4, v5, v6, rfl, s2, hw⟩
      have := k' _ s2
      rw [← hw, List.length_map, List.drop_of_length_le (Nat.le_refl _), hl, List.drop_of_length_le (Nat.le_refl _)] at this
      exact this
end
end FC
set_option Elab.async false
set_option linter.all false
set_option maxRecDepth 100000
set_option maxHeartbeats 4000000
/-! The ten defs that take a number to a step. -/
namespace FC
open PySem L2
/-- what is held, at a -/
def HeldAt (K : PySem.W.Frag) (H : Hp) (a : Addr) (h : Int × Int) : Prop := SqT K H a [.int h.1, .int h.2]
theorem HeldAt.same {K : PySem.W.Frag} {H H' : Hp} {a : Addr} {h : Int × Int} (e : HeldAt K H a h) (s : Same H H') : HeldAt K H' a h := sqt_same s e
/-- a step's kind takes the number x behind the numbers pre -/
def spGive (K : PySem.W.Frag) (name : Str) : Sp := fun vs H Q _ => ∃ (b h : Addr) (x : Int) (p : Stp) (pre : List Int), vs = [.ref b, .ref h, .int x] ∧ p.name = name ∧ p.ok ∧ SqT K H b p.v ∧ HeldAt K H h (p.held pre) ∧
  ∀ (t g h' : Addr) H', Same H H' → SqT K H' t [.ref g, .ref h'] → SqT K H' g ((p.out pre x).map V.int) → HeldAt K H' h' (p.held (pre ++ [x])) → Q (.ref t) H'
theorem sqt_new {K : PySem.W.Frag} {H : Hp} {a : Addr} {xs : List V} : SqT K (upd H a (.tup xs)) a xs := SqT.of upd_same
theorem neF {x y : V} {A B : Prop} (h : x = y) (hb : B) : if (!decide (x = y)) = true then A else B := by
  rw [decide_eq_true h]
  exact iteF hb
theorem neT {x y : V} {A B : Prop} (h : x ≠ y) (ha : A) : if (!decide (x = y)) = true then A else B := by
  rw [decide_eq_false h]
  exact iteT ha
theorem eqT {x y : V} {A B : Prop} (h : x = y) (ha : A) : if decide (x = y) = true then A else B := by
  rw [decide_eq_true h]
  exact iteT ha
theorem eqF {x y : V} {A B : Prop} (h : x ≠ y) (hb : B) : if decide (x = y) = true then A else B := by
  rw [decide_eq_false h]
  exact iteF hb
abbrev ND : List Str := ["step", "held", "number"]
abbrev ND2 : List Str := ["step", "held", "number", "place", "total"]
/-- the end of a giver: the given tuple and what is held are put into a tuple -/
theorem give_end {K : PySem.W.Frag} {H H1 : Hp} {Q : VK} {g h' : Addr} {p : Stp} {pre : List Int} {x : Int} (s : Same H H1) (hg : SqT K H1 g ((p.out pre x).map V.int)) (hh : HeldAt K H1 h' (p.held (pre ++ [x])))
    (k : ∀ (t g h' : Addr) H', Same H H' → SqT K H' t [.ref g, .ref h'] → SqT K H' g ((p.out pre x).map V.int) → HeldAt K H' h' (p.held (pre ++ [x])) → Q (.ref t) H') :
    2 ≤ sizeLine ∧ ∀ t, H1 t = none → Q (.ref t) (upd H1 t (.tup [.ref g, .ref h'])) :=
  ⟨by decide, fun t nt => k t g h' _ (same_upd s nt) sqt_new (sqt_same (same_upd (Same.refl H1) nt) hg) (hh.same (same_upd (Same.refl H1) nt))⟩
section
variable {P : Program} {w : World} {K : PySem.W.Frag} {mg : Str → Option Value} {base : Heap}
theorem lenG {K : PySem.W.Frag} {n : Str} {vs : List V} {H : Hp} {Q : VK} {E : XK} {ps : List Str} (h3 : ps.length = 3) (h : spGive K n vs H Q E) : vs.length = ps.length := by
  obtain ⟨b, h, x, p, pre, rfl, _⟩ := h
  exact h3.symm
theorem scGvLine : FnScope ND ND (defScope sGvLine) := ⟨rfl, rfl, rfl, by decide +kernel, rfl, by decide +kernel, by decide +kernel⟩
theorem ok_gvLine {f : Addr} {fd : FuncData} (F : Fun K "give_line" "give_line" sGvLine f fd) : FnOk P w K mg base CX0 1 f fd ND (spGive K "line") := by
  refine F.ok scGvLine (fun vs H Q E h => lenG rfl h) (fun cdv A outer s H vs Q E hr h => ?_)
  obtain ⟨b, h, x, p, pre, rfl, hn, hok, hb, hh, k⟩ := h
  cases p <;> first | exact absurd hn (by decide +kernel) | (dsimp only [Stp.name] at hn; exact absurd hn (by decide +kernel)) | skip
  rename_i a1 b1
  obtain ⟨a2, a3, _⟩ := hok
  refine ⟨_, pss_one (ps_ret (pe_tup (pa_cons (pe_tup (pa_cons (pe_op op_add (pe_op op_mul (pe_ix (r := rIxT K) ix_tup (pv 0) pe_int (fun _ _ => rfl)) (pv 2)) (pe_ix (r := rIxT K) ix_tup (pv 0) pe_int (fun _ _ => rfl))) pa_nil)) (pa_cons (pv 1) pa_nil)))), ?_⟩
  refine ⟨_, rfl, b, _, 1, .int a1, rfl, rfl, hb, atI_nat (j := 1) rfl, _, rfl, _, _, rfl, rfl, .inl ⟨by omega, by omega⟩, _, rfl, b, _, 2, .int b1, rfl, rfl, hb, atI_nat (j := 2) rfl, _, _, rfl, rfl, (by show 1 ≤ sizeLine; decide), fun g ng => ⟨_, rfl, ?_⟩⟩
  have s1 := same_upd (o := .tup [V.int (a1 * x + b1)]) (Same.refl H) ng
  exact give_end (p := .line a1 b1) (pre := pre) s1 sqt_new (hh.same s1) k
theorem scGvTurn : FnScope ND ND (defScope sGvTurn) := ⟨rfl, rfl, rfl, by decide +kernel, rfl, by decide +kernel, by decide +kernel⟩
theorem ok_gvTurn {f : Addr} {fd : FuncData} (F : Fun K "give_turn" "give_turn" sGvTurn f fd) : FnOk P w K mg base CX0 1 f fd ND (spGive K "turn") := by
  refine F.ok scGvTurn (fun vs H Q E h => lenG rfl h) (fun cdv A outer s H vs Q E hr h => ?_)
  obtain ⟨b, h, x, p, pre, rfl, hn, hok, hb, hh, k⟩ := h
  cases p <;> first | exact absurd hn (by decide +kernel) | (dsimp only [Stp.name] at hn; exact absurd hn (by decide +kernel)) | skip
  rename_i m r a1 b1
  obtain ⟨hm, r0, r1, a2, a3, _⟩ := hok
  refine ⟨_, pss_cons (ps_if (pt_cmpR op_ne (pe_op op_mod (pv 2) (pe_ix (r := rIxT K) ix_tup (pv 0) pe_int (fun _ _ => rfl))) (pe_ix (r := rIxT K) ix_tup (pv 0) pe_int (fun _ _ => rfl)) (nomark _)) (pss_one (ps_ret (pe_tup (pa_cons (pe_tup (pa_cons (pv 2) pa_nil)) (pa_cons (pv 1) pa_nil))))) pss_nil)
    (pss_one (ps_ret (pe_tup (pa_cons (pe_tup (pa_cons (pe_op op_add (pe_op op_mul (pe_ix (r := rIxT K) ix_tup (pv 0) pe_int (fun _ _ => rfl)) (pv 2)) (pe_ix (r := rIxT K) ix_tup (pv 0) pe_int (fun _ _ => rfl))) pa_nil)) (pa_cons (pv 1) pa_nil))))), ?_⟩
  have m0 : 0 < m := by unfold two3 at hm; omega
  refine ⟨_, rfl, _, rfl, b, _, 1, .int m, rfl, rfl, hb, atI_nat (j := 1) rfl, _, _, rfl, rfl, m0, _, rfl, b, _, 2, .int r, rfl, rfl, hb, atI_nat (j := 2) rfl, rfl, _, rfl, ?_⟩
  have hi := rem_iff (x := x) hm r0 r1
  by_cases hc : x % m = r
  · refine neF (congrArg V.int hc) ?_
    refine ⟨_, rfl, b, _, 3, .int a1, rfl, rfl, hb, atI_nat (j := 3) rfl, _, rfl, _, _, rfl, rfl, .inl ⟨by omega, by omega⟩, _, rfl, b, _, 4, .int b1, rfl, rfl, hb, atI_nat (j := 4) rfl, _, _, rfl, rfl, (by show 1 ≤ sizeLine; decide), fun g ng => ⟨_, rfl, ?_⟩⟩
    have s1 := same_upd (o := .tup [V.int (a1 * x + b1)]) (Same.refl H) ng
    exact give_end (p := .turn m r a1 b1) (pre := pre) s1 (by
      have := sqt_new (K := K) (H := H) (a := g) (xs := [V.int (a1 * x + b1)])
      dsimp only [Stp.out]
      rw [if_pos (hi.mpr hc)]
      exact this) (hh.same s1) k
  · refine neT (fun z => hc (by injection z)) ?_
    refine ⟨_, rfl, (by show 1 ≤ sizeLine; decide), fun g ng => ⟨_, rfl, ?_⟩⟩
    have s1 := same_upd (o := .tup [V.int x]) (Same.refl H) ng
    exact give_end (p := .turn m r a1 b1) (pre := pre) s1 (by
      have := sqt_new (K := K) (H := H) (a := g) (xs := [V.int x])
      dsimp only [Stp.out]
      rw [if_neg (fun z => hc (hi.mp z))]
      exact this) (hh.same s1) k
theorem scGvKeep : FnScope ND ND (defScope sGvKeep) := ⟨rfl, rfl, rfl, by decide +kernel, rfl, by decide +kernel, by decide +kernel⟩
theorem ok_gvKeep {f : Addr} {fd : FuncData} (F : Fun K "give_keep" "give_keep" sGvKeep f fd) : FnOk P w K mg base CX0 1 f fd ND (spGive K "keep") := by
  refine F.ok scGvKeep (fun vs H Q E h => lenG rfl h) (fun cdv A outer s H vs Q E hr h => ?_)
  obtain ⟨b, h, x, p, pre, rfl, hn, hok, hb, hh, k⟩ := h
  cases p <;> first | exact absurd hn (by decide +kernel) | (dsimp only [Stp.name] at hn; exact absurd hn (by decide +kernel)) | skip
  have nd := scGvKeep.nd
  rename_i m r
  obtain ⟨hm, r0, r1⟩ := hok
  refine ⟨_, pss_cons (ps_if (pt_cmpR op_ne (pe_op op_mod (pv 2) (pe_ix (r := rIxT K) ix_tup (pv 0) pe_int (fun _ _ => rfl))) (pe_ix (r := rIxT K) ix_tup (pv 0) pe_int (fun _ _ => rfl)) (nomark _)) (pss_one (ps_ret (pe_tup (pa_cons (pe_tup pa_nil) (pa_cons (pv 1) pa_nil))))) pss_nil)
    (pss_one (ps_ret (pe_tup (pa_cons (pe_tup (pa_cons (pv 2) pa_nil)) (pa_cons (pv 1) pa_nil))))), ?_⟩
  have m0 : 0 < m := by unfold two3 at hm; omega
  refine ⟨_, rfl, _, rfl, b, _, 1, .int m, rfl, rfl, hb, atI_nat (j := 1) rfl, _, _, rfl, rfl, m0, _, rfl, b, _, 2, .int r, rfl, rfl, hb, atI_nat (j := 2) rfl, rfl, _, rfl, ?_⟩
  have hi := rem_iff (x := x) hm r0 r1
  by_cases hc : x % m = r
  · refine neF (congrArg V.int hc) ?_
    refine ⟨_, rfl, (by show 1 ≤ sizeLine; decide), fun g ng => ⟨_, rfl, ?_⟩⟩
    have s1 := same_upd (o := .tup [V.int x]) (Same.refl H) ng
    exact give_end (p := .keep m r) (pre := pre) s1 (by
      have := sqt_new (K := K) (H := H) (a := g) (xs := [V.int x])
      dsimp only [Stp.out]
      rw [if_pos (hi.mpr hc)]
      exact this) (hh.same s1) k
  · refine neT (fun z => hc (by injection z)) ?_
    refine ⟨(by show 0 ≤ sizeLine; decide), fun g ng => ⟨_, rfl, ?_⟩⟩
    have s1 := same_upd (o := .tup []) (Same.refl H) ng
    exact give_end (p := .keep m r) (pre := pre) s1 (by
      have := sqt_new (K := K) (H := H) (a := g) (xs := [])
      dsimp only [Stp.out]
      rw [if_neg (fun z => hc (hi.mp z))]
      exact this) (hh.same s1) k
theorem scGvEvery : FnScope ["step", "held", "number", "place", "total", "given"] ND (defScope sGvEvery) := ⟨rfl, rfl, rfl, by decide +kernel, rfl, by decide +kernel, by decide +kernel⟩
theorem ok_gvEvery {f : Addr} {fd : FuncData} (F : Fun K "give_every" "give_every" sGvEvery f fd) : FnOk P w K mg base CX0 1 f fd ND (spGive K "every") := by
  refine F.ok scGvEvery (fun vs H Q E h => lenG rfl h) (fun cdv A outer s H vs Q E hr h => ?_)
  obtain ⟨b, h, x, p, pre, rfl, hn, hok, hb, hh, k⟩ := h
  cases p <;> first | exact absurd hn (by decide +kernel) | (dsimp only [Stp.name] at hn; exact absurd hn (by decide +kernel)) | skip
  have nd := scGvEvery.nd
  rename_i m r
  obtain ⟨hm, r0, r1⟩ := hok
  have m0 : 0 < m := by unfold two3 at hm; omega
  refine ⟨_, pss_cons (ps_asg (pv 1) (pg_tup rfl (pgs_cons (pg_name (i := 3) nd rfl (Or.inl rfl)) (pgs_cons (pg_name (i := 4) nd rfl (Or.inl rfl)) pgs_nil))))
    (pss_cons (ps_set (i := 5) nd rfl (Or.inl rfl) (pe_ifExp (pt_cmpR op_eq (pv 3) (pe_ix (r := rIxT K) ix_tup (pv 0) pe_int (fun _ _ => rfl)) (nomark _)) (pe_tup (pa_cons (pv 2) pa_nil)) (pe_tup pa_nil)))
    (pss_one (ps_ret (pe_tup (pa_cons (pv 5) (pa_cons (pe_tup (pa_cons (pe_op op_mod (pe_op op_add (pv 3) pe_int) (pe_ix (r := rIxT K) ix_tup (pv 0) pe_int (fun _ _ => rfl))) (pa_cons (pv 4) pa_nil))) pa_nil)))))), ?_⟩
  refine ⟨_, rfl, h, _, rfl, hh, rfl, _, _, rfl, _, _, rfl, rfl, ?_⟩
  refine ⟨_, rfl, _, rfl, b, _, 2, .int r, rfl, rfl, hb, atI_nat (j := 2) rfl, rfl, _, rfl, ?_⟩
  have fin : ∀ (g : Addr) (H1 : Hp), Same H H1 → SqT K H1 g (((Stp.every m r).out pre x).map V.int) → ∀ q, H1 q = none → 2 ≤ sizeLine ∧ ∀ t, upd H1 q (.tup [.int (((pre.length : Int) % m + 1) % m), .int 0]) t = none → Q (.ref t) (upd (upd H1 q (.tup [.int (((pre.length : Int) % m + 1) % m), .int 0])) t (.tup [.ref g, .ref q])) := fun g H1 s1 hg q nq =>
    give_end (p := .every m r) (pre := pre) (same_upd s1 nq) (sqt_same (same_upd (Same.refl H1) nq) hg) (by
      have := sqt_new (K := K) (H := H1) (a := q) (xs := [.int (((pre.length : Int) % m + 1) % m), .int 0])
      dsimp only [HeldAt, Stp.held]
      rw [List.length_append, List.length_singleton, Int.natCast_add, Int.natCast_one]
      rw [every_next hm] at this ⊢
      exact this) k
  by_cases hc : (pre.length : Int) % m = r
  · refine eqT (congrArg V.int hc) ?_
    refine ⟨_, rfl, (by show 1 ≤ sizeLine; decide), fun g ng => ?_⟩
    have s1 := same_upd (o := .tup [V.int x]) (Same.refl H) ng
    refine ⟨_, rfl, _, rfl, _, _, rfl, rfl, _, rfl, b, _, 1, .int m, rfl, rfl, sqt_same s1 hb, atI_nat (j := 1) rfl, _, _, rfl, rfl, m0, _, rfl, (by show 2 ≤ sizeLine; decide), fun q nq => fin g _ s1 (by
      have := sqt_new (K := K) (H := H) (a := g) (xs := [V.int x])
      dsimp only [Stp.out]
      rw [if_pos hc]
      exact this) q nq⟩
  · refine eqF (fun z => hc (by injection z)) ?_
    refine ⟨(by show 0 ≤ sizeLine; decide), fun g ng => ?_⟩
    have s1 := same_upd (o := .tup []) (Same.refl H) ng
    refine ⟨_, rfl, _, rfl, _, _, rfl, rfl, _, rfl, b, _, 1, .int m, rfl, rfl, sqt_same s1 hb, atI_nat (j := 1) rfl, _, _, rfl, rfl, m0, _, rfl, (by show 2 ≤ sizeLine; decide), fun q nq => fin g _ s1 (by
      have := sqt_new (K := K) (H := H) (a := g) (xs := [])
      dsimp only [Stp.out]
      rw [if_neg hc]
      exact this) q nq⟩
theorem scGvTwice : FnScope ND ND (defScope sGvTwice) := ⟨rfl, rfl, rfl, by decide +kernel, rfl, by decide +kernel, by decide +kernel⟩
theorem ok_gvTwice {f : Addr} {fd : FuncData} (F : Fun K "give_twice" "give_twice" sGvTwice f fd) : FnOk P w K mg base CX0 1 f fd ND (spGive K "twice") := by
  refine F.ok scGvTwice (fun vs H Q E h => lenG rfl h) (fun cdv A outer s H vs Q E hr h => ?_)
  obtain ⟨b, h, x, p, pre, rfl, hn, hok, hb, hh, k⟩ := h
  cases p <;> first | exact absurd hn (by decide +kernel) | (dsimp only [Stp.name] at hn; exact absurd hn (by decide +kernel)) | skip
  have nd := scGvTwice.nd
  refine ⟨_, pss_one (ps_ret (pe_tup (pa_cons (pe_tup (pa_cons (pv 2) (pa_cons (pv 2) pa_nil))) (pa_cons (pv 1) pa_nil)))), ?_⟩
  refine ⟨_, rfl, _, rfl, (by show 2 ≤ sizeLine; decide), fun g ng => ⟨_, rfl, ?_⟩⟩
  have s1 := same_upd (o := .tup [V.int x, .int x]) (Same.refl H) ng
  exact give_end (p := .twice) (pre := pre) s1 sqt_new (hh.same s1) k
theorem scGvSums : FnScope ND2 ND (defScope sGvSums) := ⟨rfl, rfl, rfl, by decide +kernel, rfl, by decide +kernel, by decide +kernel⟩
theorem ok_gvSums {f : Addr} {fd : FuncData} (F : Fun K "give_sums" "give_sums" sGvSums f fd) : FnOk P w K mg base CX0 1 f fd ND (spGive K "sums") := by
  refine F.ok scGvSums (fun vs H Q E h => lenG rfl h) (fun cdv A outer s H vs Q E hr h => ?_)
  obtain ⟨b, h, x, p, pre, rfl, hn, hok, hb, hh, k⟩ := h
  cases p <;> first | exact absurd hn (by decide +kernel) | (dsimp only [Stp.name] at hn; exact absurd hn (by decide +kernel)) | skip
  have nd := scGvSums.nd
  refine ⟨_, pss_cons (ps_asg (pv 1) (pg_tup rfl (pgs_cons (pg_name (i := 3) nd rfl (Or.inl rfl)) (pgs_cons (pg_name (i := 4) nd rfl (Or.inl rfl)) pgs_nil))))
    (pss_one (ps_ret (pe_tup (pa_cons (pe_tup (pa_cons (pe_op op_add (pv 4) (pv 2)) pa_nil)) (pa_cons (pe_tup (pa_cons (pv 3) (pa_cons (pe_op op_add (pv 4) (pv 2)) pa_nil))) pa_nil))))), ?_⟩
  refine ⟨_, rfl, h, _, rfl, hh, rfl, _, _, rfl, _, _, rfl, rfl, ?_⟩
  refine ⟨_, rfl, _, rfl, _, _, rfl, rfl, (by show 1 ≤ sizeLine; decide), fun g ng => ?_⟩
  have s1 := same_upd (o := .tup [V.int (pre.sum + x)]) (Same.refl H) ng
  refine ⟨_, rfl, _, rfl, _, rfl, _, _, rfl, rfl, (by show 2 ≤ sizeLine; decide), fun q nq => ?_⟩
  refine give_end (p := .sums) (pre := pre) (same_upd s1 nq) (sqt_same (same_upd (Same.refl _) nq) ?_) ?_ k
  · have := sqt_new (K := K) (H := H) (a := g) (xs := [V.int (pre.sum + x)])
    dsimp only [Stp.out]
    rw [sum_snoc]
    exact this
  · have := sqt_new (K := K) (H := upd H g (.tup [V.int (pre.sum + x)])) (a := q) (xs := [.int 0, .int (pre.sum + x)])
    dsimp only [HeldAt, Stp.held]
    rw [sum_snoc]
    exact this
theorem scGvGaps : FnScope ND2 ND (defScope sGvGaps) := ⟨rfl, rfl, rfl, by decide +kernel, rfl, by decide +kernel, by decide +kernel⟩
theorem ok_gvGaps {f : Addr} {fd : FuncData} (F : Fun K "give_gaps" "give_gaps" sGvGaps f fd) : FnOk P w K mg base CX0 1 f fd ND (spGive K "gaps") := by
  refine F.ok scGvGaps (fun vs H Q E h => lenG rfl h) (fun cdv A outer s H vs Q E hr h => ?_)
  obtain ⟨b, h, x, p, pre, rfl, hn, hok, hb, hh, k⟩ := h
  cases p <;> first | exact absurd hn (by decide +kernel) | (dsimp only [Stp.name] at hn; exact absurd hn (by decide +kernel)) | skip
  have nd := scGvGaps.nd
  refine ⟨_, pss_cons (ps_asg (pv 1) (pg_tup rfl (pgs_cons (pg_name (i := 3) nd rfl (Or.inl rfl)) (pgs_cons (pg_name (i := 4) nd rfl (Or.inl rfl)) pgs_nil))))
    (pss_one (ps_ret (pe_tup (pa_cons (pe_tup (pa_cons (pe_op op_sub (pv 2) (pv 4)) pa_nil)) (pa_cons (pe_tup (pa_cons (pv 3) (pa_cons (pv 2) pa_nil))) pa_nil))))), ?_⟩
  refine ⟨_, rfl, h, _, rfl, hh, rfl, _, _, rfl, _, _, rfl, rfl, ?_⟩
  refine ⟨_, rfl, _, rfl, _, _, rfl, rfl, (by show 1 ≤ sizeLine; decide), fun g ng => ?_⟩
  have s1 := same_upd (o := .tup [V.int (x - pre.getLastD 0)]) (Same.refl H) ng
  refine ⟨_, rfl, _, rfl, (by show 2 ≤ sizeLine; decide), fun q nq => ?_⟩
  refine give_end (p := .gaps) (pre := pre) (same_upd s1 nq) (sqt_same (same_upd (Same.refl _) nq) ?_) ?_ k
  · exact sqt_new (K := K) (H := H) (a := g) (xs := [V.int (x - pre.getLastD 0)])
  · have := sqt_new (K := K) (H := upd H g (.tup [V.int (x - pre.getLastD 0)])) (a := q) (xs := [.int 0, .int x])
    dsimp only [HeldAt, Stp.held]
    rw [gaps_snoc]
    exact this
theorem scGvCount : FnScope ND2 ND (defScope sGvCount) := ⟨rfl, rfl, rfl, by decide +kernel, rfl, by decide +kernel, by decide +kernel⟩
theorem ok_gvCount {f : Addr} {fd : FuncData} (F : Fun K "give_count" "give_count" sGvCount f fd) : FnOk P w K mg base CX0 1 f fd ND (spGive K "count") := by
  refine F.ok scGvCount (fun vs H Q E h => lenG rfl h) (fun cdv A outer s H vs Q E hr h => ?_)
  obtain ⟨b, h, x, p, pre, rfl, hn, hok, hb, hh, k⟩ := h
  cases p <;> first | exact absurd hn (by decide +kernel) | (dsimp only [Stp.name] at hn; exact absurd hn (by decide +kernel)) | skip
  have nd := scGvCount.nd
  refine ⟨_, pss_cons (ps_asg (pv 1) (pg_tup rfl (pgs_cons (pg_name (i := 3) nd rfl (Or.inl rfl)) (pgs_cons (pg_name (i := 4) nd rfl (Or.inl rfl)) pgs_nil))))
    (pss_one (ps_ret (pe_tup (pa_cons (pe_tup (pa_cons (pe_op op_add (pv 4) pe_int) pa_nil)) (pa_cons (pe_tup (pa_cons (pv 3) (pa_cons (pe_op op_add (pv 4) pe_int) pa_nil))) pa_nil))))), ?_⟩
  refine ⟨_, rfl, h, _, rfl, hh, rfl, _, _, rfl, _, _, rfl, rfl, ?_⟩
  refine ⟨_, rfl, _, _, rfl, rfl, (by show 1 ≤ sizeLine; decide), fun g ng => ?_⟩
  have s1 := same_upd (o := .tup [V.int ((pre.length : Int) + 1)]) (Same.refl H) ng
  refine ⟨_, rfl, _, rfl, _, _, rfl, rfl, (by show 2 ≤ sizeLine; decide), fun q nq => ?_⟩
  refine give_end (p := .count) (pre := pre) (same_upd s1 nq) (sqt_same (same_upd (Same.refl _) nq) ?_) ?_ k
  · exact sqt_new (K := K) (H := H) (a := g) (xs := [V.int ((pre.length : Int) + 1)])
  · have := sqt_new (K := K) (H := upd H g (.tup [V.int ((pre.length : Int) + 1)])) (a := q) (xs := [.int 0, .int ((pre.length : Int) + 1)])
    dsimp only [HeldAt, Stp.held]
    rw [List.length_append, List.length_singleton]
    exact this
theorem scGvAnew : FnScope ND2 ND (defScope sGvAnew) := ⟨rfl, rfl, rfl, by decide +kernel, rfl, by decide +kernel, by decide +kernel⟩
theorem ok_gvAnew {f : Addr} {fd : FuncData} (F : Fun K "give_anew" "give_anew" sGvAnew f fd) : FnOk P w K mg base CX0 1 f fd ND (spGive K "anew") := by
  refine F.ok scGvAnew (fun vs H Q E h => lenG rfl h) (fun cdv A outer s H vs Q E hr h => ?_)
  obtain ⟨b, h, x, p, pre, rfl, hn, hok, hb, hh, k⟩ := h
  cases p <;> first | exact absurd hn (by decide +kernel) | (dsimp only [Stp.name] at hn; exact absurd hn (by decide +kernel)) | skip
  have nd := scGvAnew.nd
  rename_i m r
  obtain ⟨hm, r0, r1⟩ := hok
  have m0 : 0 < m := by unfold two3 at hm; omega
  refine ⟨_, pss_cons (ps_asg (pv 1) (pg_tup rfl (pgs_cons (pg_name (i := 3) nd rfl (Or.inl rfl)) (pgs_cons (pg_name (i := 4) nd rfl (Or.inl rfl)) pgs_nil))))
    (pss_cons (ps_if (pt_cmpR op_eq (pe_op op_mod (pv 2) (pe_ix (r := rIxT K) ix_tup (pv 0) pe_int (fun _ _ => rfl))) (pe_ix (r := rIxT K) ix_tup (pv 0) pe_int (fun _ _ => rfl)) (nomark _)) (pss_one (ps_set (i := 4) nd rfl (Or.inl rfl) pe_int)) pss_nil)
    (pss_one (ps_ret (pe_tup (pa_cons (pe_tup (pa_cons (pe_op op_add (pv 4) (pv 2)) pa_nil)) (pa_cons (pe_tup (pa_cons (pv 3) (pa_cons (pe_op op_add (pv 4) (pv 2)) pa_nil))) pa_nil)))))), ?_⟩
  refine ⟨_, rfl, h, _, rfl, hh, rfl, _, _, rfl, _, _, rfl, rfl, ?_⟩
  refine ⟨_, rfl, _, rfl, b, _, 1, .int m, rfl, rfl, hb, atI_nat (j := 1) rfl, _, _, rfl, rfl, m0, _, rfl, b, _, 2, .int r, rfl, rfl, hb, atI_nat (j := 2) rfl, rfl, _, rfl, ?_⟩
  have hi := rem_iff (x := x) hm r0 r1
  have hs := anew_snoc m r pre x
  have fin : ∀ tot : Int, (((pre ++ [x]).drop (lastHit m r (pre ++ [x]))).sum = tot + x) → ∀ g, H g = none → ∀ q, upd H g (.tup [V.int (tot + x)]) q = none → 2 ≤ sizeLine ∧ ∀ t, upd (upd H g (.tup [V.int (tot + x)])) q (.tup [.int 0, .int (tot + x)]) t = none → Q (.ref t) (upd (upd (upd H g (.tup [V.int (tot + x)])) q (.tup [.int 0, .int (tot + x)])) t (.tup [.ref g, .ref q])) := fun tot e g ng q nq => by
    refine give_end (p := .anew m r) (pre := pre) (same_upd (same_upd (Same.refl H) ng) nq) (sqt_same (same_upd (Same.refl _) nq) ?_) ?_ k
    · have := sqt_new (K := K) (H := H) (a := g) (xs := [V.int (tot + x)])
      dsimp only [Stp.out]
      rw [e]
      exact this
    · have := sqt_new (K := K) (H := upd H g (.tup [V.int (tot + x)])) (a := q) (xs := [.int 0, .int (tot + x)])
      dsimp only [HeldAt, Stp.held]
      rw [e]
      exact this
  by_cases hc : x % m = r
  · refine eqT (congrArg V.int hc) ?_
    rw [if_pos (hi.mpr hc)] at hs
    exact ⟨_, rfl, _, rfl, _, _, rfl, rfl, (by show 1 ≤ sizeLine; decide), fun g ng => ⟨_, rfl, _, rfl, _, rfl, _, _, rfl, rfl, (by show 2 ≤ sizeLine; decide), fun q nq => fin _ hs g ng q nq⟩⟩
  · refine eqF (fun z => hc (by injection z)) ?_
    rw [if_neg (fun z => hc (hi.mp z))] at hs
    exact ⟨_, rfl, _, rfl, _, _, rfl, rfl, (by show 1 ≤ sizeLine; decide), fun g ng => ⟨_, rfl, _, rfl, _, rfl, _, _, rfl, rfl, (by show 2 ≤ sizeLine; decide), fun q nq => fin _ hs g ng q nq⟩⟩
theorem scGvGroups : FnScope ND2 ND (defScope sGvGroups) := ⟨rfl, rfl, rfl, by decide +kernel, rfl, by decide +kernel, by decide +kernel⟩
theorem ok_gvGroups {f : Addr} {fd : FuncData} {nh : Addr} (F : Fun K "give_groups" "give_groups" sGvGroups f fd) (mN : mg "NOTHING_HELD" = some (.ref nh)) (hN : ∀ H, SqT K H nh [.int 0, .int 0]) : FnOk P w K mg base CX0 1 f fd ND (spGive K "groups") := by
  refine F.ok scGvGroups (fun vs H Q E h => lenG rfl h) (fun cdv A outer s H vs Q E hr h => ?_)
  obtain ⟨b, h, x, p, pre, rfl, hn, hok, hb, hh, k⟩ := h
  cases p <;> first | exact absurd hn (by decide +kernel) | (dsimp only [Stp.name] at hn; exact absurd hn (by decide +kernel)) | skip
  have nd := scGvGroups.nd
  rename_i m
  have hm : two3 m := hok
  refine ⟨_, pss_cons (ps_asg (pv 1) (pg_tup rfl (pgs_cons (pg_name (i := 3) nd rfl (Or.inl rfl)) (pgs_cons (pg_name (i := 4) nd rfl (Or.inl rfl)) pgs_nil))))
    (pss_cons (ps_if (pt_cmp (pc_lt (pe_op op_add (pv 3) pe_int) (pe_ix (r := rIxT K) ix_tup (pv 0) pe_int (fun _ _ => rfl)))) (pss_one (ps_ret (pe_tup (pa_cons (pe_tup pa_nil) (pa_cons (pe_tup (pa_cons (pe_op op_add (pv 3) pe_int) (pa_cons (pe_op op_add (pv 4) (pv 2)) pa_nil))) pa_nil))))) pss_nil)
    (pss_one (ps_ret (pe_tup (pa_cons (pe_tup (pa_cons (pe_op op_add (pv 4) (pv 2)) pa_nil)) (pa_cons (pe_glob (v := .ref nh) rfl mN rfl) pa_nil)))))), ?_⟩
  refine ⟨_, rfl, h, _, rfl, hh, rfl, _, _, rfl, _, _, rfl, rfl, ?_⟩
  refine ⟨_, rfl, _, _, rfl, rfl, _, rfl, b, _, 1, .int m, rfl, rfl, hb, atI_nat (j := 1) rfl, _, _, rfl, rfl, _, rfl, ?_⟩
  refine ite2 (fun hlt => ?_) (fun hlt => ?_)
  · have hlt : (pre.length : Int) % m + 1 < m := of_decide_eq_true hlt
    obtain ⟨g1, g2, g3⟩ := groups_low hm (x := x) hlt
    refine ⟨(by show 0 ≤ sizeLine; decide), fun g ng => ?_⟩
    have s1 := same_upd (o := .tup []) (Same.refl H) ng
    refine ⟨_, rfl, _, _, rfl, rfl, _, rfl, _, rfl, _, _, rfl, rfl, (by show 2 ≤ sizeLine; decide), fun q nq => ?_⟩
    refine give_end (p := .groups m) (pre := pre) (same_upd s1 nq) (sqt_same (same_upd (Same.refl _) nq) ?_) ?_ k
    · have := sqt_new (K := K) (H := H) (a := g) (xs := [])
      dsimp only [Stp.out]
      rw [if_neg g1]
      exact this
    · have := sqt_new (K := K) (H := upd H g (.tup [])) (a := q) (xs := [.int ((pre.length : Int) % m + 1), .int ((pre.drop (pre.length - pre.length % m.toNat)).sum + x)])
      dsimp only [HeldAt, Stp.held]
      rw [g3, List.length_append, List.length_singleton, Int.natCast_add, Int.natCast_one, g2]
      exact this
  · have hlt : ¬ (pre.length : Int) % m + 1 < m := fun z => hlt (decide_eq_true z)
    obtain ⟨g1, g2, g3⟩ := groups_high hm (x := x) hlt
    refine ⟨_, rfl, _, rfl, _, _, rfl, rfl, (by show 1 ≤ sizeLine; decide), fun g ng => ?_⟩
    have s1 := same_upd (o := .tup [V.int ((pre.drop (pre.length - pre.length % m.toNat)).sum + x)]) (Same.refl H) ng
    refine give_end (p := .groups m) (pre := pre) s1 ?_ ?_ k
    · have := sqt_new (K := K) (H := H) (a := g) (xs := [V.int ((pre.drop (pre.length - pre.length % m.toNat)).sum + x)])
      dsimp only [Stp.out]
      rw [if_pos g1, g2]
      exact this
    · dsimp only [HeldAt, Stp.held]
      rw [g3, List.length_append, List.length_singleton, Int.natCast_add, Int.natCast_one, g1]
      exact hN _
end
end FC
set_option Elab.async false
set_option linter.all false
set_option maxRecDepth 100000
set_option maxHeartbeats 4000000
namespace FC
open PySem L2
/-- a value in a step's place: a tuple of nice values, or another thing -/
def StepV (K : PySem.W.Frag) (H : Hp) (x : V) : Option (List V) → Prop
  | some ys => ∃ b, x = .ref b ∧ SqT K H b ys ∧ ∀ y ∈ ys, Nice K H y
  | none => ∃ T, T ∈ kinds ∧ T ≠ "tuple" ∧ TyX K H x (.type T)
def stepOkO : Option (List V) → Bool
  | some ys => stepOk ys
  | none => false
theorem StepV.same {K : PySem.W.Frag} {H H' : Hp} {x : V} {o : Option (List V)} (e : Same H H') (h : StepV K H x o) : StepV K H' x o := by
  cases o with
  | some ys =>
    obtain ⟨b, h1, h2, h3⟩ := h
    exact ⟨b, h1, sqt_same e h2, fun y hy => (h3 y hy).same e⟩
  | none =>
    obtain ⟨T, h1, h2, h3⟩ := h
    exact ⟨T, h1, h2, tyX_same e h3⟩
def spIsStep (K : PySem.W.Frag) : Sp := fun vs H Q _ => ∃ x o, vs = [x] ∧ StepV K H x o ∧ ∀ H', Same H H' → Q (.bl (stepOkO o)) H'
theorem at0 {α : Type} (y : α) (r : List α) : atI (y :: r) 0 = some y := by
  have h := atI_nat (xs := y :: r) (j := 0) (v := y) rfl
  exact h
theorem cut1 (y : V) (r : List V) : cutV (y :: r) (some 1) none = r := by
  simp [cutV, HT.sIx]
section
variable {P : Program} {w : World} {K : PySem.W.Frag} {mg : Str → Option Value} {base : Heap}
theorem scIsStep : FnScope ["value", "name"] ["value"] (defScope sIsStep) := ⟨rfl, rfl, rfl, by decide +kernel, rfl, by decide +kernel, by decide +kernel⟩
theorem ok_isStep {f dL : Addr} {fd : FuncData} (F : Fun K "is_step" "is_step" sIsStep f fd) (T : Blt mg) (C : Cal P w K mg base CX0 2 "are_within" ["letters", "numbers"] (spWithin K)) (mL : mg "LETTERS" = some (.ref dL)) (B : LetT K w dL) :
    FnOk P w K mg base CX0 3 f fd ["value"] (spIsStep K) := by
  refine F.ok scIsStep (fun vs H Q E h => ?_) (fun cdv A outer s H vs Q E hr h => ?_)
  · obtain ⟨x, o, rfl, _⟩ := h
    rfl
  · obtain ⟨x, o, rfl, hx, k⟩ := h
    have nd := scIsStep.nd
    obtain ⟨es, nn, kd⟩ := B.kd
    refine ⟨_, pss_cons (ps_if (PW.pt (pw_or (pt_not (pt_val (pe_callB call_isi (by rfl) T.isi (by decide +kernel) (pa_cons (pv 0) (pa_cons (pe_bltn (v := .ty "tuple") (by rfl) T.tuple (by decide +kernel) rfl) pa_nil))))) (pw_or1 (pt_cmpR op_eq (pe_callB call_len (by rfl) T.len PySem.boot_len (pa_cons (pv 0) pa_nil)) pe_int (nomark _))))) (pss_one (ps_ret pe_bl)) pss_nil)
      (pss_cons (ps_set (i := 1) nd rfl (Or.inl rfl) (pe_ix ix_tup (pv 0) pe_int (fun _ _ => rfl)))
      (pss_cons (ps_if (PW.pt (pw_or (pt_not (pt_val (pe_callB call_isi (by rfl) T.isi (by decide +kernel) (pa_cons (pv 1) (pa_cons (pe_bltn (v := .ty "str") (by rfl) T.str (by decide +kernel) rfl) pa_nil))))) (pw_or1 (pt_cmpR (op_notIn_kd kd) (pv 1) (pe_glob (v := .ref dL) rfl mL rfl) rfl)))) (pss_one (ps_ret pe_bl)) pss_nil)
      (pss_one (ps_ret (pe_cal C hr pass0 (pa_cons (pe_ix ix_kdict (pe_glob (v := .ref dL) rfl mL rfl) (pv 1) (fun _ _ => rfl)) (pa_cons (pe_slice sl_tup (pv 0) (po_some pe_int) po_none) pa_nil))))))), ?_⟩
    cases o with
    | none =>
      obtain ⟨t, ht, hnt, hty⟩ := hx
      refine ⟨_, rfl, _, _, _, _, _, rfl, .ty _, hty, kit_ty (kit_tuple t ht), _, rfl, ?_⟩
      rw [show (t == "tuple") = false from beq_eq_false_iff_ne.mpr hnt]
      exact iteT (iteT (k H (Same.refl H)))
    | some ys =>
      obtain ⟨b, rfl, hb, hn⟩ := hx
      refine ⟨_, rfl, _, _, _, _, _, rfl, .ty _, ty_tup hb, kit_ty (kit_tuple "tuple" (by decide)), _, rfl, iteF ?_⟩
      refine ⟨_, rfl, _, ys.length, rfl, .inr ⟨_, hb, rfl⟩, rfl, _, rfl, ?_⟩
      cases ys with
      | nil => exact iteT (k H (Same.refl H))
      | cons y r =>
        have e : decide (V.int ((y :: r).length : Nat) = V.int 0) = false := decide_eq_false fun z => by
          injection z with z
          rw [List.length_cons] at z
          omega
        show if decide (V.int ((y :: r).length : Nat) = V.int 0) = true then _ else _
        rw [e]
        refine iteF ?_
        -- name = value[0]
        refine ⟨_, rfl, b, _, _, y, rfl, rfl, hb, at0 y r, ?_⟩
        obtain ⟨t, ht, hty⟩ := hn y (by simp)
        refine ⟨_, rfl, _, _, _, _, _, rfl, .ty _, hty, kit_ty (kit_str t ht), _, rfl, ?_⟩
        by_cases hS : isS y = false
        · rw [isS_of hty] at hS
          rw [hS]
          refine iteT (iteT ?_)
          have := k H (Same.refl H)
          have e2 : stepOkO (some (y :: r)) = false := by
            rw [← isS_of hty] at hS
            cases y <;> first | rfl | cases hS
          rw [e2] at this
          exact this
        · obtain ⟨z, rfl⟩ : ∃ z, y = V.str z := by
            cases y <;> first | exact ⟨_, rfl⟩ | exact absurd rfl hS
          rw [show (t == "str") = true from (isS_of hty).symm]
          refine iteF ?_
          obtain ⟨o, ho, hm⟩ := B.at_ z
          refine ⟨_, rfl, z, o, rfl, rfl, ho, _, rfl, ?_⟩
          cases el : tab.lookup z with
          | none =>
            rw [el] at hm
            rw [hm]
            refine iteT ?_
            have := k H (Same.refl H)
            have e2 : stepOkO (some (V.str z :: r)) = false := by
              show stepOkN z r = false
              unfold stepOkN
              rw [el]
            rw [e2] at this
            exact this
          | some ls =>
            rw [el] at hm
            obtain ⟨a, hm, hls⟩ := hm
            rw [hm]
            refine iteF ?_
            rw [hm] at ho
            refine ⟨_, rfl, dL, z, .ref a, rfl, rfl, ⟨es, nn, _, kd.at_, kd.lit, ho, rfl⟩, ?_⟩
            refine ⟨_, rfl, _, rfl, b, _, rfl, hb, ?_, fun p np => ?_⟩
            · simp [HT.sIx]
            · rw [cut1]
              have s1 := same_upd (o := .tup r) (Same.refl H) np
              have all : ∀ q ∈ tab, ∀ l ∈ q.2, l ∈ letters5 := by decide +kernel
              refine ⟨a, p, ls, r, rfl, hls _, SqT.of upd_same, all _ (lookup_mem el), fun x hx => (hn x (List.mem_cons_of_mem _ hx)).same s1, fun H' s2 => ?_⟩
              have := k H' (Same.trans s1 s2)
              have e2 : stepOkO (some (V.str z :: r)) = (decide (ls.length = r.length) && within ls r 0) := by
                show stepOkN z r = _
                unfold stepOkN
                rw [el]
              rw [e2] at this
              exact this
end
end FC
set_option Elab.async false
set_option linter.all false
set_option maxRecDepth 100000
set_option maxHeartbeats 4000000
namespace FC
open PySem L2
/-- values in the places of a chain's steps -/
structure Steps (K : PySem.W.Frag) (H : Hp) (xs : List V) (os : List (Option (List V))) : Prop where
  len : xs.length = os.length
  at_ : ∀ (i : Nat) (x : V) (o : Option (List V)), xs[i]? = some x → os[i]? = some o → StepV K H x o
theorem Steps.same {K : PySem.W.Frag} {H H' : Hp} {xs : List V} {os : List (Option (List V))} (e : Same H H') (s : Steps K H xs os) : Steps K H' xs os :=
  ⟨s.len, fun i x o h1 h2 => (s.at_ i x o h1 h2).same e⟩
def spLimits (K : PySem.W.Frag) : Sp := fun vs H Q _ => ∃ a xs cs, vs = [.ref a] ∧ SqT K H a xs ∧ Steps K H xs (cs.map some) ∧ xs.length ≤ 1000 ∧ (∀ ys ∈ cs, stepOk ys = true) ∧ ∀ H', Same H H' → Q (.bl (limOk cs)) H'
theorem get_lt {α : Type} {l : List α} {i : Nat} {x : α} (h : l[i]? = some x) : i < l.length := (List.getElem?_eq_some_iff.mp h).1
theorem take_succ_get {α : Type} {l : List α} {i : Nat} {x : α} (h : l[i]? = some x) : l.take (i + 1) = l.take i ++ [x] := by
  rw [List.take_add_one, h]
  rfl
theorem inV_strs (n : Str) (ns : List Str) : inV (.str n) (ns.map V.str) = decide (n ∈ ns) := by
  unfold inV
  induction ns with
  | nil => simp
  | cons m r ih =>
    rw [List.map_cons, List.any_cons, ih]
    show (m == n || decide (n ∈ r)) = _
    by_cases h : n = m
    · subst h; simp
    · have h2 : (m == n) = false := beq_eq_false_iff_ne.mpr (fun z => h z.symm)
      rw [h2]
      simp [h]
theorem flat_strs (ns : List Str) : (ns.map V.str).all flatV = true := by
  simp [flatV]
section
variable {P : Program} {w : World} {K : PySem.W.Frag} {mg : Str → Option Value} {base : Heap}
theorem scLimits : FnScope ["steps", "most", "names", "step"] ["steps"] (defScope sLimits) := ⟨rfl, rfl, rfl, by decide +kernel, rfl, by decide +kernel, by decide +kernel⟩
theorem ok_limits {f dI : Addr} {fd : FuncData} (F : Fun K "keeps_limits" "keeps_limits" sLimits f fd) (T : Blt mg) (mI : mg "LIMITS" = some (.ref dI)) (B : LimT K dI) :
    FnOk P w K mg base CX0 1 f fd ["steps"] (spLimits K) := by
  refine F.ok scLimits (fun vs H Q E h => ?_) (fun cdv A outer s H vs Q E hr h => ?_)
  · obtain ⟨x, o, _, rfl, _⟩ := h
    rfl
  · obtain ⟨a, xs, cs, rfl, ha, hs, hlen, hok, k⟩ := h
    have nd := scLimits.nd
    obtain ⟨rs, hI, hrs, hat⟩ := B.at_
    refine ⟨_, pss_cons (ps_for PassesOwn.never rfl (pi_tup (pe_glob (v := .ref dI) rfl mI rfl)) (pg_tup rfl (pgs_cons (pg_name (i := 1) nd rfl (Or.inl rfl)) (pgs_cons (pg_name (i := 2) nd rfl (Or.inr rfl)) pgs_nil)))
        (pss_one (ps_if (pt_cmp (pc_gt (pe_callB call_len (by rfl) T.len PySem.boot_len (pa_cons
          (pe_lc (own := [("step", 3)]) (g := gName 3) (by rfl) nd (pi_tup (pv 0)) (blkOk_by (own := [("step", 3)]) (N := ["steps", "most", "names", "step"]) (sc := defScope sLimits) (by decide +kernel)) (fun _ _ _ _ _ => pg_name (i := 3) nd rfl (Or.inl rfl))
            (fun _ _ _ _ _ => pts_one (pt_cmpR (r := rIn K false) op_in_seq (pe_ix (r := rIxT K) ix_tup (pv 3) pe_int (fun _ _ => rfl)) (pv 2) rfl)) (fun _ _ _ _ _ => pv 3)) pa_nil)) (pv 1))) (pss_one (ps_ret pe_bl)) pss_nil)))
      (pss_one (ps_ret pe_bl)), ?_⟩
    refine ⟨dI, rfl, ⟨_, hI H⟩, for_tup (K := K) (a := dI) (xs := rs.map V.ref) (fun i σ H2 => ∃ v1 v2 v3 : Option V, σ = [some (.ref a), v1, v2, v3] ∧ Same H H2 ∧ (lims.take i).all (fun p => decide ((cs.filter (headIn p.2)).length ≤ p.1)) = true)
      ⟨none, none, none, rfl, Same.refl H, rfl⟩ (fun i σ H2 _ _ => hI H2) ?_ ?_⟩
    · rintro i x σ H2 hx ⟨v1, v2, v3, rfl, s2, hall⟩
      have hi : i < rs.length := by
        have := get_lt hx
        rwa [List.length_map] at this
      obtain ⟨r, hr', rfl⟩ : ∃ r, rs[i]? = some r ∧ x = V.ref r := ⟨rs[i], List.getElem?_eq_getElem hi, by
        rw [List.getElem?_map, List.getElem?_eq_getElem hi] at hx
        exact (Option.some.inj hx).symm⟩
      obtain ⟨⟨m, names⟩, hp⟩ : ∃ p, lims[i]? = some p := ⟨lims[i]'(by omega), List.getElem?_eq_getElem (by omega)⟩
      obtain ⟨c, h1, h2⟩ := hat i (m, names) r hp hr'
      refine ⟨r, _, rfl, h1 _, rfl, _, _, rfl, _, _, rfl, rfl, ?_⟩
      -- the comprehension
      refine ⟨_, rfl, a, rfl, ⟨_, sqt_same s2 ha⟩, fun D nD => ?_⟩
      have sD : Same H (upd H2 D (.lst [])) := same_upd s2 nD
      refine lc_tup (K := K) (a := a) (xs := xs) (fun j H3 => ∃ acc : List V, H3 D = some (.lst acc) ∧ acc.length = ((cs.take j).filter (headIn names)).length ∧ Same H H3)
        ⟨[], upd_same, rfl, sD⟩ (fun j H3 _ ⟨_, _, _, s3⟩ => sqt_same s3 ha) ?_ ?_
      · rintro j y H3 hy ⟨acc, hD, hacc, s3⟩
        have hj : j < cs.length := by
          have := get_lt hy
          rw [hs.len, List.length_map] at this
          exact this
        have hcj : (cs.map some)[j]? = some (some cs[j]) := by rw [List.getElem?_map, List.getElem?_eq_getElem hj]; rfl
        obtain ⟨b, rfl, hb, hn⟩ := hs.at_ j y _ hy hcj
        have hcm : cs[j] ∈ cs := List.getElem_mem hj
        obtain ⟨name, ns, ec, _⟩ := stepOk_shape (hok _ hcm)
        rw [ec] at hb
        have et : (cs.take (j + 1)).filter (headIn names) = (cs.take j).filter (headIn names) ++ (if name ∈ names then [cs[j]] else []) := by
          rw [take_succ_get (List.getElem?_eq_getElem hj), List.filter_append]
          congr 1
          rw [List.filter_cons, ec]
          show (if decide (name ∈ names) = true then _ else _) = _
          by_cases hm : name ∈ names
          · rw [if_pos hm, if_pos (decide_eq_true hm)]; rfl
          · rw [if_neg hm, if_neg (by simpa using hm)]; rfl
        refine ⟨rfl, _, rfl, b, _, _, .str name, rfl, rfl, sqt_same s3 hb, at0 _ _, _, rfl, c, names.map V.str, rfl, .inr (h2 _), rfl, flat_strs _, _, rfl, ?_⟩
        show if inV (.str name) (names.map V.str) = true then _ else _
        rw [inV_strs]
        refine ite2 (fun hm => ?_) (fun hm => ?_)
        · have hm := of_decide_eq_true hm
          rw [if_pos hm] at et
          have hle : acc.length ≤ j := by
            rw [hacc]
            exact Nat.le_trans (List.length_filter_le _ _) (by rw [List.length_take]; omega)
          have hjx := get_lt hy
          refine ⟨_, rfl, acc, hD, small1000 (by omega), acc ++ [.ref b], upd_same, ?_, ?_⟩
          · rw [et, List.length_append, List.length_append, hacc]
            rfl
          · intro q u hq
            have hqD : q ≠ D := fun z => by
              have := s2 q u hq
              rw [z, nD] at this
              cases this
            rw [upd_ne hqD]
            exact s3 q u hq
        · have hm : ¬ name ∈ names := fun z => hm (decide_eq_true z)
          rw [if_neg hm, List.append_nil] at et
          exact ⟨acc, hD, by rw [et]; exact hacc, s3⟩
      · rintro H3 ⟨acc, hD, hacc, s3⟩
        rw [hs.len, List.length_map, List.take_length] at hacc
        refine ⟨_, acc.length, rfl, .inl ⟨acc, SqL.of hD, rfl⟩, _, rfl, _, _, rfl, rfl, _, rfl, ?_⟩
        refine ite2 (fun hgt => ?_) (fun hgt => ?_)
        · have hgt : ((m : Nat) : Int) < (acc.length : Int) := of_decide_eq_true hgt
          have := k H3 s3
          have e : limOk cs = false := by
            cases el : limOk cs with
            | false => rfl
            | true =>
              unfold limOk at el
              have := List.all_eq_true.mp el (m, names) (List.mem_of_getElem? hp)
              have := of_decide_eq_true this
              have : (cs.filter (headIn names)).length ≤ m := this
              omega
          rw [e] at this
          exact this
        · have hgt : ¬ ((m : Nat) : Int) < (acc.length : Int) := fun z => hgt (decide_eq_true z)
          refine ⟨_, _, _, rfl, s3, ?_⟩
          rw [take_succ_get hp, List.all_append, hall]
          show (true && (decide ((cs.filter (headIn names)).length ≤ m) && true)) = true
          rw [decide_eq_true (by omega)]
          rfl
    · rintro σ H2 ⟨v1, v2, v3, rfl, s2, hall⟩
      have := k H2 s2
      have e : limOk cs = true := by
        unfold limOk
        rw [List.length_map, hrs, List.take_length] at hall
        exact hall
      rw [e] at this
      exact this
end
end FC
set_option Elab.async false
set_option linter.all false
set_option maxRecDepth 100000
set_option maxHeartbeats 4000000
namespace FC
open PySem L2
/-- a value in a chain's place: a tuple, or another thing -/
def ChainV (K : PySem.W.Frag) (H : Hp) (x : V) : Option (List (Option (List V))) → Prop
  | some os => ∃ a xs, x = .ref a ∧ SqT K H a xs ∧ Steps K H xs os
  | none => ∃ T, T ∈ kinds ∧ T ≠ "tuple" ∧ TyX K H x (.type T)
def chainOkL (os : List (Option (List V))) : Bool := decide (os.length ≤ 4) && (os.all stepOkO && limOk (os.filterMap id))
def chainOkO : Option (List (Option (List V))) → Bool
  | some os => chainOkL os
  | none => false
theorem chainOkL_some (cs : List (List V)) : chainOkL (cs.map some) = chainOk cs := by
  unfold chainOkL chainOk
  have e1 : (cs.map some).all stepOkO = cs.all stepOk := by
    rw [List.all_map]
    rfl
  have e2 : (cs.map some).filterMap id = cs := by
    induction cs with
    | nil => rfl
    | cons c r ih =>
      rw [List.map_cons, List.filterMap_cons]
      show c :: _ = _
      rw [ih (by
        rw [List.all_map]
        rfl)]
  rw [e1, e2, List.length_map]
theorem all_somes : ∀ {os : List (Option (List V))}, os.all stepOkO = true → os = (os.filterMap id).map some
  | [], _ => rfl
  | none :: r, h => by simp [stepOkO] at h
  | some c :: r, h => by
    rw [List.all_cons, Bool.and_eq_true] at h
    have ih := all_somes h.2
    show some c :: r = some c :: (r.filterMap id).map some
    rw [← ih]
theorem somes_ok {os : List (Option (List V))} (h : os.all stepOkO = true) : ∀ ys ∈ os.filterMap id, stepOk ys = true := fun ys hy => by
  obtain ⟨o, ho, e⟩ := List.mem_filterMap.mp hy
  have e : o = some ys := e
  have := List.all_eq_true.mp h o ho
  rw [e] at this
  exact this
def spIsChain (K : PySem.W.Frag) : Sp := fun vs H Q _ => ∃ x oo, vs = [x] ∧ ChainV K H x oo ∧ ∀ H', Same H H' → Q (.bl (chainOkO oo)) H'
section
variable {P : Program} {w : World} {K : PySem.W.Frag} {mg : Str → Option Value} {base : Heap}
theorem scIsChain : FnScope ["value", "step"] ["value"] (defScope sIsChain) := ⟨rfl, rfl, rfl, by decide +kernel, rfl, by decide +kernel, by decide +kernel⟩
theorem ok_isChain {f : Addr} {tM : Tok} {fd : FuncData} (F : Fun K "is_chain" "is_chain" sIsChain f fd) (T : Blt mg) (CS : Cal P w K mg base CX0 3 "is_step" ["value"] (spIsStep K)) (CL : Cal P w K mg base CX0 1 "keeps_limits" ["steps"] (spLimits K))
    (mM : mg "MOST_STEPS" = some (.int 4 tM)) : FnOk P w K mg base CX0 4 f fd ["value"] (spIsChain K) := by
  refine F.ok scIsChain (fun vs H Q E h => ?_) (fun cdv A outer s H vs Q E hr h => ?_)
  · obtain ⟨x, o, rfl, _⟩ := h
    rfl
  · obtain ⟨x, oo, rfl, hx, k⟩ := h
    have nd := scIsChain.nd
    have hr1 : Room 1 _ := hr.mono (by decide)
    refine ⟨_, pss_cons (ps_if (PW.pt (pw_or (pt_not (pt_val (pe_callB call_isi (by rfl) T.isi (by decide +kernel) (pa_cons (pv 0) (pa_cons (pe_bltn (v := .ty "tuple") (by rfl) T.tuple (by decide +kernel) rfl) pa_nil)))))
          (pw_or1 (pt_cmp (pc_gt (pe_callB call_len (by rfl) T.len PySem.boot_len (pa_cons (pv 0) pa_nil)) (pe_glob (v := .int 4) rfl mM ⟨_, rfl⟩)))))) (pss_one (ps_ret pe_bl)) pss_nil)
      (pss_one (ps_ret (pe_and (pe_callB (cr_all rfl) (by rfl) T.all (by decide +kernel) (pa_cons
          (pe_lc (own := [("step", 1)]) (g := gName 1) (by rfl) nd (pi_tup (pv 0)) (blkOk_by (own := [("step", 1)]) (N := ["value", "step"]) (sc := defScope sIsChain) (by decide +kernel)) (fun _ _ _ _ _ => pg_name (i := 1) nd rfl (Or.inl rfl))
            (fun _ _ _ _ _ => pts_nil) (fun _ _ _ _ _ => pe_cal CS hr pass0 (pa_cons (pv 1) pa_nil))) pa_nil)) (pe_one (pe_cal CL hr1 pass0 (pa_cons (pv 0) pa_nil)))))), ?_⟩
    cases oo with
    | none =>
      obtain ⟨t, ht, hnt, hty⟩ := hx
      refine ⟨_, rfl, _, _, _, _, _, rfl, .ty _, hty, kit_ty (kit_tuple t ht), _, rfl, ?_⟩
      rw [show (t == "tuple") = false from beq_eq_false_iff_ne.mpr hnt]
      exact iteT (iteT (k H (Same.refl H)))
    | some os =>
      obtain ⟨a, xs, rfl, ha, hs⟩ := hx
      refine ⟨_, rfl, _, _, _, _, _, rfl, .ty _, ty_tup ha, kit_ty (kit_tuple "tuple" (by decide)), _, rfl, iteF ?_⟩
      refine ⟨_, rfl, _, xs.length, rfl, .inr ⟨_, ha, rfl⟩, _, _, rfl, rfl, _, rfl, ?_⟩
      refine ite2 (fun hgt => ?_) (fun hgt => ?_)
      · have hgt : (4 : Int) < (xs.length : Int) := of_decide_eq_true hgt
        have := k H (Same.refl H)
        have e : chainOkO (some os) = false := by
          show chainOkL os = false
          unfold chainOkL
          rw [decide_eq_false (by rw [← hs.len]; omega)]
          rfl
        rw [e] at this
        exact this
      · have hgt : xs.length ≤ 4 := by
          have : ¬ (4 : Int) < (xs.length : Int) := fun z => hgt (decide_eq_true z)
          omega
        have k' : ∀ H', Same H H' → Q (.bl (os.all stepOkO && limOk (os.filterMap id))) H' := fun H' z => by
          have := k H' z
          have e : chainOkO (some os) = (os.all stepOkO && limOk (os.filterMap id)) := by
            show chainOkL os = _
            unfold chainOkL
            rw [decide_eq_true (by rw [← hs.len]; omega)]
            rfl
          rw [e] at this
          exact this
        refine ⟨_, rfl, a, rfl, ⟨_, ha⟩, fun D nD => ?_⟩
        have sD : Same H (upd H D (.lst [])) := same_upd (Same.refl H) nD
        refine lc_tup (K := K) (a := a) (xs := xs) (fun j H3 => H3 D = some (.lst (((os.take j).map stepOkO).map V.bl)) ∧ Same H H3) ⟨upd_same, sD⟩ (fun j H3 _ ⟨_, s3⟩ => sqt_same s3 ha) ?_ ?_
        · rintro j y H3 hy ⟨hD, s3⟩
          have hj : j < os.length := by
            have := get_lt hy
            rw [hs.len] at this
            exact this
          have ho : os[j]? = some os[j] := List.getElem?_eq_getElem hj
          refine ⟨rfl, ⟨_, rfl, y, _, rfl, (hs.at_ j y _ hy ho).same s3, fun H4 s4 => ⟨_, s4 _ _ hD, ?_, ?_, ?_⟩⟩⟩
          · rw [List.length_map, List.length_map, List.length_take]
            exact small1000 (by have := get_lt hy; omega)
          · rw [upd_same, take_succ_get ho, List.map_append, List.map_append]
            rfl
          · intro q u hq
            have hqD : q ≠ D := fun z => by
              rw [z, nD] at hq
              cases hq
            rw [upd_ne hqD]
            exact s4 q u (s3 q u hq)
        · rintro H3 ⟨hD, s3⟩
          rw [hs.len, List.take_length] at hD
          refine ⟨D, _, rfl, SqL.of hD, ?_⟩
          refine ⟨_, rfl, ?_⟩
          have ea : (os.map stepOkO).all id = os.all stepOkO := by
            rw [List.all_map]
            rfl
          rw [ea]
          cases hall : os.all stepOkO with
          | false =>
            refine iteF ?_
            have := k' H3 s3
            rw [hall] at this
            exact this
          | true =>
            refine iteT ?_
            have e2 := all_somes hall
            refine ⟨_, rfl, a, xs, os.filterMap id, rfl, sqt_same s3 ha, ?_, by omega, somes_ok hall, fun H4 s4 => ?_⟩
            · rw [← e2]
              exact hs.same s3
            · have := k' H4 (Same.trans s3 s4)
              rw [hall] at this
              exact this
end
end FC
set_option Elab.async false
set_option linter.all false
set_option maxRecDepth 100000
set_option maxHeartbeats 4000000
namespace FC
open PySem L2
/-- nothing, or InvalidChain -/
def spCheck (K : PySem.W.Frag) (C : Addr) : Sp := fun vs H Q E => ∃ x oo, vs = [x] ∧ ChainV K H x oo ∧ ∀ H', Same H H' → (chainOkO oo = true → Q .non H') ∧ (chainOkO oo = false → E (.ref C) none H')
section
variable {P : Program} {w : World} {K : PySem.W.Frag} {mg : Str → Option Value} {base : Heap}
theorem scCheck : FnScope ["value"] ["value"] (defScope sCheck) := ⟨rfl, rfl, rfl, by decide +kernel, rfl, by decide +kernel, by decide +kernel⟩
theorem ok_check {f C : Addr} {fd : FuncData} (F : Fun K "check_chain" "check_chain" sCheck f fd) (CC : Cal P w K mg base CX0 4 "is_chain" ["value"] (spIsChain K)) (T : ExcT K mg "InvalidChain" C) :
    FnOk P w K mg base (L2N.CX P w) 5 f fd ["value"] (spCheck K C) := by
  refine okN F scCheck (fun vs H Q E h => ?_) (fun cdv A outer s H vs Q E hr h => ?_)
  · obtain ⟨x, o, rfl, _⟩ := h
    rfl
  · obtain ⟨x, oo, rfl, hx, k⟩ := h
    refine ⟨_, pss_one (ps_if (pt_not (pt_val (pe_cal CC hr pass0 (pa_cons (pv 0) pa_nil)))) (pss_one (L2N.ps_raise rfl (L2N.takes_of rfl rfl rfl rfl) (L2N.pmk_own PySem.F.excBase_ValueError T.q T.gC T.kC (raises_own T.bP T.tP) rfl))) pss_nil), ?_⟩
    refine ⟨_, rfl, x, oo, rfl, hx, fun H1 s1 => ⟨_, rfl, ?_⟩⟩
    cases h : chainOkO oo with
    | false => exact iteT ((k H1 s1).2 h)
    | true => exact iteF ((k H1 s1).1 h)
end
end FC
set_option Elab.async false
set_option linter.all false
set_option maxRecDepth 100000
namespace FC
open PySem L2
/-- at a stands a chain of these steps -/
def ChainAt (K : PySem.W.Frag) (H : Hp) (a : Addr) (cs : List (List V)) : Prop := ∃ xs, SqT K H a xs ∧ Steps K H xs (cs.map some)
theorem ChainAt.v {K : PySem.W.Frag} {H : Hp} {a : Addr} {cs : List (List V)} (h : ChainAt K H a cs) : ChainV K H (.ref a) (some (cs.map some)) := by
  obtain ⟨xs, h1, h2⟩ := h
  exact ⟨a, xs, rfl, h1, h2⟩
theorem ChainAt.same {K : PySem.W.Frag} {H H' : Hp} {a : Addr} {cs : List (List V)} (e : Same H H') (h : ChainAt K H a cs) : ChainAt K H' a cs := by
  obtain ⟨xs, h1, h2⟩ := h
  exact ⟨xs, sqt_same e h1, h2.same e⟩
end FC
set_option Elab.async false
set_option linter.all false
set_option maxRecDepth 100000
set_option maxHeartbeats 4000000
namespace FC
open PySem L2
/-! ### the law's draws -/
def spCellL (K : PySem.W.Frag) : Sp := fun vs H Q _ => ∃ (a : Addr) (ns : List Int) (k : Int), vs = [.ref a, .int k] ∧ SqL K H a (ns.map V.int) ∧ ns.length ≤ 63 ∧ ∀ n H', Same H H' → Q (.int n) H'
def spDrawn : Sp := fun vs H Q _ => ∃ c k : Int, vs = [.int c, .int k] ∧ ∀ r : Int, 0 ≤ r → Q (.int r) H
/-- two numbers that are used up -/
def Dice (H : Hp) (d : Addr) : Prop := ∃ a b : Int, H d = some (.lst [.int a, .int b])
/-- all but d is as it was -/
def SameX (d : Addr) (H H' : Hp) : Prop := ∀ b o, H b = some o → b ≠ d → H' b = some o
def spRoll : Sp := fun vs H Q _ => ∃ (d : Addr) (m : Int), vs = [.ref d, .int m] ∧ Dice H d ∧ 1 ≤ m ∧ m < 1606938044258990275541962092341162602522202993782792835301376 ∧ ∀ (r : Int) H', 0 ≤ r → r < m → Dice H' d → SameX d H H' → Q (.int r) H'
theorem SameX.refl (d : Addr) (H : Hp) : SameX d H H := fun _ _ h _ => h
theorem SameX.trans {d : Addr} {H H1 H2 : Hp} (a : SameX d H H1) (b : SameX d H1 H2) : SameX d H H2 := fun c o h n => b c o (a c o h n) n
theorem SameX.of {d : Addr} {H H' : Hp} (e : Same H H') : SameX d H H' := fun b o h _ => e b o h
theorem mod_nat {x m : Int} {n : Nat} (h : 0 < m) (hm : m.natAbs ≤ 2 ^ n) : (x % m).natAbs < 2 ^ n := by
  have h1 := Int.emod_nonneg x (Int.ne_of_gt h)
  have h2 := Int.emod_lt_of_pos x h
  omega
theorem div_nat {x m : Int} {n : Nat} (h0 : 0 ≤ x) (h : 0 < m) (hx : x.natAbs < 2 ^ n) : (x / m).natAbs < 2 ^ n := by
  have h1 := Int.ediv_nonneg h0 (Int.le_of_lt h)
  have h2 := Int.ediv_le_self m h0
  omega
theorem plus_nat {x : Int} {n : Nat} (hx : x.natAbs < 2 ^ n) : (x + 1).natAbs < 2 ^ (n + 1) := by
  have : 1 ≤ 2 ^ n := Nat.one_le_two_pow
  rw [Nat.pow_succ]
  omega
theorem dp_ints {K : PySem.W.Frag} {H : Hp} : ∀ ns : List Int, DpAll K H (ns.map V.int) (ns.map PyData.int)
  | [] => .nil
  | n :: r => .cons (.int n) (dp_ints r)
section
variable {P : Program} {w : World} {K : PySem.W.Frag} {mg : Str → Option Value} {base : Heap}
theorem scCell : FnScope ["_law_script", "_law_k"] ["_law_script", "_law_k"] (defScope sCell) := ⟨rfl, rfl, rfl, by decide +kernel, rfl, by decide +kernel, by decide +kernel⟩
theorem ok_cell {f : Addr} {fd : FuncData} (F : Fun K "_law_cell" "_law_cell" sCell f fd) (T : Blt mg) : FnOk P w K mg base CX0 1 f fd ["_law_script", "_law_k"] (spCellL K) := by
  refine F.ok scCell (fun vs H Q E h => ?_) (fun cdv A outer s H vs Q E hr h => ?_)
  · obtain ⟨a, ns, k, rfl, _⟩ := h
    rfl
  · obtain ⟨a, ns, k, rfl, ha, hl, q⟩ := h
    have nd := scCell.nd
    refine ⟨_, pss_cons (ps_if (pt_cmpR (op_eqD hr.units) (pv 0) (pe_lst pa_nil) (nomark _)) (pss_one (ps_ret (pe_op op_mul (pv 1) pe_int))) pss_nil)
      (pss_one (ps_ret (pe_op op_add (pe_ix ix_list (pv 0) (pe_op op_mod (pv 1) (pe_callB call_len (by rfl) T.len PySem.boot_len (pa_cons (pv 0) pa_nil))) (fun _ _ => rfl))
        (pe_op op_mul (pe_op op_fdiv (pv 1) (pe_callB call_len (by rfl) T.len PySem.boot_len (pa_cons (pv 0) pa_nil))) pe_int)))), ?_⟩
    refine ⟨_, rfl, by decide, fun p np => ?_⟩
    have s1 := same_upd (o := .lst []) (Same.refl H) np
    have ha1 := Same.seq s1 ha
    refine ⟨.list (ns.map .int), .list [], .lst ha1 (dp_ints ns), .lst (SqL.of upd_same) .nil, PySem.W.ke_shaped_ints ns, by decide, _, rfl, ?_⟩
    cases ns with
    | nil => exact iteT ⟨_, rfl, _, _, rfl, rfl, .inr (by decide), q _ _ s1⟩
    | cons n r =>
      refine iteF ?_
      have hpos : (0 : Int) < (((n :: r).map V.int).length : Nat) := by
        rw [List.length_map, List.length_cons]
        omega
      have hlt : (((n :: r).map V.int).length : Int) < 1073741824 := by
        rw [List.length_map]
        omega
      have h0 := Int.emod_nonneg k (Int.ne_of_gt hpos)
      have h1 := Int.emod_lt_of_pos k hpos
      obtain ⟨j, hj⟩ := Int.eq_ofNat_of_zero_le h0
      have hjl : j < ((n :: r).map V.int).length := by omega
      obtain ⟨v, hv⟩ : ∃ v : Int, ((n :: r).map V.int)[j]? = some (V.int v) := by
        rw [List.length_map] at hjl
        exact ⟨(n :: r)[j], by rw [List.getElem?_map, List.getElem?_eq_getElem hjl]; rfl⟩
      refine ⟨_, rfl, _, rfl, _, rfl, _, ((n :: r).map V.int).length, rfl, .inl ⟨_, ha1, rfl⟩, _, _, rfl, rfl, hpos, ?_⟩
      refine ⟨a, _, _, .int v, rfl, rfl, ha1, ?_, ?_⟩
      · rw [hj]
        exact atI_nat hv
      · refine ⟨_, rfl, _, rfl, _, ((n :: r).map V.int).length, rfl, .inl ⟨_, ha1, rfl⟩, _, _, rfl, rfl, ⟨hpos, hlt⟩, _, _, rfl, rfl, .inr (by decide), _, _, rfl, rfl, q _ _ s1⟩
theorem scDrawn : FnScope ["_law_cell_here", "_law_k", "_law_more"] ["_law_cell_here", "_law_k"] (defScope sDrawn) := ⟨rfl, rfl, rfl, by decide +kernel, rfl, by decide +kernel, by decide +kernel⟩
theorem ok_drawn {f : Addr} {fd : FuncData} (F : Fun K "_law_drawn" "_law_drawn" sDrawn f fd) : FnOk P w K mg base CX0 1 f fd ["_law_cell_here", "_law_k"] spDrawn := by
  refine F.ok scDrawn (fun vs H Q E h => ?_) (fun cdv A outer s H vs Q E hr h => ?_)
  · obtain ⟨c, k, rfl, _⟩ := h
    rfl
  · obtain ⟨c, k, rfl, q⟩ := h
    have nd := scDrawn.nd
    refine ⟨_, pss_cons (ps_set (i := 2) nd rfl (Or.inl rfl) (pe_op op_mod (pe_op op_add (pe_op op_mul (pv 0) pe_int) (pe_op op_mul (pe_op op_add (pv 1) pe_int) pe_int)) pe_int))
      (pss_cons (ps_set (i := 2) nd rfl (Or.inl rfl) (pe_op op_mod (pe_op op_mulW (pv 2) (pv 2)) pe_int))
      (pss_cons (ps_set (i := 2) nd rfl (Or.inl rfl) (pe_op op_mulW (pe_op op_mulW (pe_op op_add (pe_op op_mod (pv 2) pe_int) pe_int) (pe_op op_add (pe_op op_fdivW (pv 2) pe_int) pe_int)) (pv 2)))
      (pss_one (ps_ret (pe_op op_mod (pv 2) pe_int))))), ?_⟩
    refine ⟨_, rfl, _, _, rfl, rfl, .inr (by decide), _, rfl, _, _, rfl, rfl, _, _, rfl, rfl, .inr (by decide), _, _, rfl, rfl, _, _, rfl, rfl, (by decide : (0 : Int) < 340282366920938463463374607431768211507), ?_⟩
    have bx : ((c * 6364136223846793005 + (k + 1) * 1442695040888963407) % 340282366920938463463374607431768211507).natAbs < 2 ^ 129 := mod_nat (by decide) (by decide)
    refine ⟨_, rfl, _, rfl, _, _, rfl, rfl, wide_mul bx bx (by decide) (by decide) (by decide), _, _, rfl, rfl, (by decide : (0 : Int) < 340282366920938463463374607431768211297), ?_⟩
    have c1 := Int.emod_nonneg ((c * 6364136223846793005 + (k + 1) * 1442695040888963407) % 340282366920938463463374607431768211507 * ((c * 6364136223846793005 + (k + 1) * 1442695040888963407) % 340282366920938463463374607431768211507)) (by decide : (340282366920938463463374607431768211297 : Int) ≠ 0)
    have by_ : ((c * 6364136223846793005 + (k + 1) * 1442695040888963407) % 340282366920938463463374607431768211507 * ((c * 6364136223846793005 + (k + 1) * 1442695040888963407) % 340282366920938463463374607431768211507) % 340282366920938463463374607431768211297).natAbs < 2 ^ 129 := mod_nat (by decide) (by decide)
    have bu := plus_nat (mod_nat (x := (c * 6364136223846793005 + (k + 1) * 1442695040888963407) % 340282366920938463463374607431768211507 * ((c * 6364136223846793005 + (k + 1) * 1442695040888963407) % 340282366920938463463374607431768211507) % 340282366920938463463374607431768211297) (m := 18446744073709551557) (n := 64) (by decide) (by decide))
    have bv := plus_nat (div_nat (m := 18446744073709551557) c1 (by decide) by_)
    refine ⟨_, rfl, _, _, rfl, rfl, (by decide : (0 : Int) < 18446744073709551557), _, _, rfl, rfl, _, rfl, _, _, rfl, rfl, wide_div (b := 64) (by decide) (by decide) (by decide) (by decide), _, _, rfl, rfl, _, _, rfl, rfl, wide_mul bu bv (by decide) (by decide) (by decide), ?_⟩
    have bw := wide_lt bu bv
    refine ⟨_, rfl, _, _, rfl, rfl, wide_mul bw by_ (by decide) (by decide) (by decide), ?_⟩
    exact ⟨_, rfl, _, _, rfl, rfl, (by decide : (0 : Int) < 340282366920938463463374607431768211507), q _ (Int.emod_nonneg _ (by decide))⟩
end
end FC
set_option Elab.async false
set_option linter.all false
set_option maxRecDepth 100000
set_option maxHeartbeats 1000000
/-! Steps and tuples of numbers in the heap. -/
namespace FC
open PySem L2
structure Blt2 (mg : Str → Option Value) : Prop where
  enumerate : mg "enumerate" = none
  list : mg "list" = none
theorem sql_same {K : PySem.W.Frag} {H H' : Hp} {a : Addr} {xs : List V} (e : Same H H') (h : SqL K H a xs) : SqL K H' a xs := by
  rcases h with (h | ⟨o, h⟩) | h
  · exact .inl (.inl (e _ _ h))
  · exact .inl (.inr ⟨o, e _ _ h⟩)
  · exact .inr h
/-- at c stands a tuple of these steps -/
def StpsAt (K : PySem.W.Frag) (H : Hp) (c : Addr) (ps : List Stp) : Prop := ∃ xs : List V, SqT K H c xs ∧ xs.length = ps.length ∧ ∀ (i : Nat) (x : V) (p : Stp), xs[i]? = some x → ps[i]? = some p → ∃ b, x = .ref b ∧ SqT K H b p.v
def TupsAt (H : Hp) (qs : List Addr) (gs : List (List Int)) : Prop := qs.length = gs.length ∧ ∀ (i : Nat) (q : Addr) (g : List Int), qs[i]? = some q → gs[i]? = some g → H q = some (.tup (g.map V.int))
end FC
set_option Elab.async false
set_option linter.all false
set_option maxRecDepth 100000
set_option maxHeartbeats 4000000
/-! Numbers through a step, a number through a chain, a row through a chain. -/
namespace FC
open PySem L2
/-- a tuple stays when a list changes -/
theorem sqt_lst {K : PySem.W.Frag} {H : Hp} {a o : Addr} {ys xs zs : List V} (ho : H o = some (.lst xs)) (h : SqT K H a ys) : SqT K (upd H o (.lst zs)) a ys := by
  rcases h with (h | ⟨q, h⟩) | h
  · refine .inl (.inl ?_)
    rw [upd_ne (fun z => by rw [z, ho] at h; cases h)]
    exact h
  · refine .inl (.inr ⟨q, ?_⟩)
    rw [upd_ne (fun z => by rw [z, ho] at h; cases h)]
    exact h
  · exact .inr h
/-- the table of the givers -/
structure GivT (P : Program) (w : World) (K : PySem.W.Frag) (mg : Str → Option Value) (base : Heap) (d : Addr) : Prop where
  kd : ∃ es n, KDict K w d es n
  at_ : ∀ p : Stp, ∃ f, PySem.W.nsIn K d p.name = some (some (.ref f)) ∧ Held P w K mg base 1 f (spGive K p.name)
def spPassT (K : PySem.W.Frag) : Sp := fun vs H Q _ => ∃ (b h l : Addr) (p : Stp) (pre xs : List Int), vs = [.ref b, .ref h, .ref l] ∧ p.ok ∧ SqT K H b p.v ∧ HeldAt K H h (p.held pre) ∧ SqL K H l (xs.map V.int) ∧ xs.length ≤ 1000 ∧
  ∀ (t o h' : Addr) H', Same H H' → SqT K H' t [.ref o, .ref h'] → H o = none → H' o = some (.lst ((p.outs pre xs).map V.int)) → HeldAt K H' h' (p.held (pre ++ xs)) → Q (.ref t) H'
section
variable {P : Program} {w : World} {K : PySem.W.Frag} {mg : Str → Option Value} {base : Heap}
theorem scPassT : FnScope ["step", "held", "numbers", "giver", "out", "now", "number", "given"] ["step", "held", "numbers"] (defScope sPassT) := ⟨rfl, rfl, rfl, by decide +kernel, rfl, by decide +kernel, by decide +kernel⟩
theorem ok_passT {f dG : Addr} {fd : FuncData} (F : Fun K "pass_through" "pass_through" sPassT f fd) (mG : mg "GIVERS" = some (.ref dG)) (G : GivT P w K mg base dG) : FnOk P w K mg base CX0 2 f fd ["step", "held", "numbers"] (spPassT K) := by
  refine F.ok scPassT (fun vs H Q E h => ?_) (fun cdv A outer s H vs Q E hr h => ?_)
  · obtain ⟨b, h, l, p, pre, xs, rfl, _⟩ := h
    rfl
  · obtain ⟨b, h, l, p, pre, xs, rfl, hok, hb, hh, hl, hx, k⟩ := h
    have nd := scPassT.nd
    refine ⟨_, pss_cons (ps_set (i := 3) nd rfl (Or.inl rfl) (pe_ix ix_kdict (pe_glob (v := .ref dG) rfl mG rfl) (pe_ix (r := rIxT K) ix_tup (pv 0) pe_int (fun _ _ => rfl)) (fun _ _ => rfl)))
      (pss_cons (ps_set (i := 4) nd rfl (Or.inl rfl) (pe_lst pa_nil))
      (pss_cons (ps_set (i := 5) nd rfl (Or.inl rfl) (pv 1))
      (pss_cons (ps_for PassesOwn.never rfl (pi_list (pv 2)) (pg_name (i := 6) nd rfl (Or.inl rfl))
        (pss_cons (ps_asg (pe_callHd (i := 3) hr rfl (Or.inl rfl) (pa_cons (pv 0) (pa_cons (pv 5) (pa_cons (pv 6) pa_nil)))) (pg_tup rfl (pgs_cons (pg_name (i := 7) nd rfl (Or.inl rfl)) (pgs_cons (pg_name (i := 5) nd rfl (Or.inl rfl)) pgs_nil))))
        (pss_one (ps_expr (pe_bm PySem.F.plainAttrs_list PySem.F.slot_list_extend PySem.F.type_list_extend mt_extT (pv 4) (pa_cons (pv 7) pa_nil))))))
      (pss_one (ps_ret (pe_tup (pa_cons (pv 4) (pa_cons (pv 5) pa_nil)))))))), ?_⟩
    obtain ⟨es, nn, kd⟩ := G.kd
    obtain ⟨fg, gf, gh⟩ := G.at_ p
    refine ⟨_, rfl, b, _, 0, .str p.name, rfl, rfl, hb, atI_nat (j := 0) rfl, dG, p.name, .ref fg, rfl, rfl, ⟨es, nn, _, kd.at_, kd.lit, gf, rfl⟩, ?_⟩
    refine ⟨(by show 0 ≤ sizeLine; omega), fun o no => ⟨_, rfl, ?_⟩⟩
    have s0 := same_upd (o := .lst []) (Same.refl H) no
    refine ⟨_, rfl, l, rfl, ⟨_, sql_same s0 hl⟩, for_list (K := K) (a := l) (xs := xs.map V.int) (fun i σ H2 => ∃ (h2 : Addr) (v6 v7 : Option V), σ = [some (.ref b), some (.ref h), some (.ref l), some (.ref fg), some (.ref o), some (.ref h2), v6, v7] ∧ Same H H2 ∧
        H2 o = some (.lst ((p.outs pre (xs.take i)).map V.int)) ∧ HeldAt K H2 h2 (p.held (pre ++ xs.take i)))
      ⟨h, none, none, rfl, s0, upd_same, by rw [List.take_zero, List.append_nil]; exact hh.same s0⟩ (fun i σ H2 _ ⟨_, _, _, _, s2, _⟩ => sql_same s2 hl) ?_ ?_⟩
    · rintro i v σ H2 hi ⟨h2, v6, v7, rfl, s2, eo, eh⟩
      obtain ⟨x, hx', rfl⟩ : ∃ x, xs[i]? = some x ∧ v = .int x := by
        rw [List.getElem?_map] at hi
        obtain ⟨x, h1, h2⟩ := Option.map_eq_some_iff.mp hi
        exact ⟨x, h1, h2.symm⟩
      have hil := get_lt hx'
      have et : xs.take (i + 1) = xs.take i ++ [x] := take_succ_get hx'
      refine ⟨fg, _, rfl, gh, _, rfl, _, rfl, _, rfl, b, h2, x, p, pre ++ xs.take i, rfl, rfl, hok, sqt_same s2 hb, eh, fun t g h3 H3 s3 ht hg h3h => ?_⟩
      have eo3 := s3 _ _ eo
      refine ⟨t, _, rfl, ht, rfl, _, _, rfl, _, _, rfl, rfl, ?_⟩
      have hlen : ((p.outs pre (xs.take i)).map V.int).length + ((p.out (pre ++ xs.take i) x).map V.int).length ≤ sizeLine := by
        have h1 := p.outs_len pre (xs.take i)
        have h2 := p.out_len (pre ++ xs.take i) x
        have h3 : (xs.take i).length ≤ 1000 := by rw [List.length_take]; omega
        have hsl : 4000 < sizeLine := by decide
        rw [List.length_map, List.length_map]
        omega
      refine ⟨_, rfl, .inl ⟨rfl, _, SqL.of eo3⟩, _, rfl, o, g, _, _, rfl, rfl, eo3, hg, hlen, h3, _, _, rfl, ?_, ?_, ?_⟩
      · intro b1 o1 hb1
        rw [upd_ne (ne_of_none hb1 no)]
        exact s3 _ _ (s2 _ _ hb1)
      · rw [upd_same, et, outs_snoc, List.map_append]
      · have s4 : HeldAt K H3 h3 (p.held (pre ++ xs.take (i + 1))) := by
          rw [et, ← List.append_assoc]
          exact h3h
        exact sqt_lst eo3 s4
    · rintro σ H2 ⟨h2, v6, v7, rfl, s2, eo, eh⟩
      rw [List.length_map, List.take_length] at eo eh
      refine ⟨_, rfl, _, rfl, (by show 2 ≤ sizeLine; decide), fun t nt => ?_⟩
      have s3 := same_upd (o := .tup [V.ref o, .ref h2]) (Same.refl H2) nt
      exact k t o h2 _ (Same.trans s2 s3) sqt_new no (s3 _ _ eo) (eh.same s3)
/-- the states of a chain's steps behind a row, at a -/
def StateAt (K : PySem.W.Frag) (H : Hp) (a : Addr) (ps : List Stp) (row : List Int) : Prop := ∃ xs : List V, SqT K H a xs ∧ xs.length = ps.length ∧ ∀ (i : Nat) (x : V) (p : Stp), xs[i]? = some x → ps[i]? = some p → ∃ b, x = .ref b ∧ HeldAt K H b (p.held (runM (ps.take i) row))
theorem StateAt.same {K : PySem.W.Frag} {H H' : Hp} {a : Addr} {ps : List Stp} {row : List Int} (h : StateAt K H a ps row) (s : Same H H') : StateAt K H' a ps row := by
  obtain ⟨xs, h1, h2, h3⟩ := h
  refine ⟨xs, sqt_same s h1, h2, fun i x p hx hp => ?_⟩
  obtain ⟨b, e, hb⟩ := h3 i x p hx hp
  exact ⟨b, e, hb.same s⟩
theorem stps_same {K : PySem.W.Frag} {H H' : Hp} {c : Addr} {ps : List Stp} (h : StpsAt K H c ps) (s : Same H H') : StpsAt K H' c ps := by
  obtain ⟨xs, x1, x2, x3⟩ := h
  refine ⟨xs, sqt_same s x1, x2, fun i x p hx hp => ?_⟩
  obtain ⟨b, h1, h2⟩ := x3 i x p hx hp
  exact ⟨b, h1, sqt_same s h2⟩
def spStartP (K : PySem.W.Frag) : Sp := fun vs H Q _ => ∃ (c : Addr) (ps : List Stp), vs = [.ref c] ∧ StpsAt K H c ps ∧ ps.length ≤ 10 ∧ ∀ (t : Addr) H', Same H H' → StateAt K H' t ps [] → Q (.ref t) H'
theorem run_nil_row (cs : List Stp) : runM cs [] = [] := by
  have := run_len cs []
  rw [List.length_nil, Nat.mul_zero] at this
  exact List.eq_nil_of_length_eq_zero (by omega)
theorem rep_flat {n : Nat} {v : V} : (List.replicate n [v]).flatten = List.replicate n v := by
  induction n with
  | zero => rfl
  | succ n ih => rw [List.replicate_succ, List.flatten_cons, ih]; rfl
theorem scStartP : FnScope ["chain"] ["chain"] (defScope sStartP) := ⟨rfl, rfl, rfl, by decide +kernel, rfl, by decide +kernel, by decide +kernel⟩
theorem ok_startP {f nh : Addr} {fd : FuncData} (F : Fun K "start" "start" sStartP f fd) (T : Blt mg) (mN : mg "NOTHING_HELD" = some (.ref nh)) (hN : ∀ H, SqT K H nh [.int 0, .int 0]) : FnOk P w K mg base CX0 1 f fd ["chain"] (spStartP K) := by
  refine F.ok scStartP (fun vs H Q E h => ?_) (fun cdv A outer s H vs Q E hr h => ?_)
  · obtain ⟨c, ps, rfl, _⟩ := h
    rfl
  · obtain ⟨c, ps, rfl, hc, hl, k⟩ := h
    have nd := scStartP.nd
    refine ⟨_, pss_one (ps_ret (pe_op op_repA (pe_tup (pa_cons (pe_glob (v := .ref nh) rfl mN rfl) pa_nil)) (pe_callB call_len (by rfl) T.len PySem.boot_len (pa_cons (pv 0) pa_nil)))), ?_⟩
    obtain ⟨xs, x1, x2, x3⟩ := hc
    refine ⟨(by show 1 ≤ sizeLine; decide), fun q nq => ⟨_, rfl, .ref c, xs.length, rfl, ?_, ?_⟩⟩
    · exact .inr ⟨_, sqt_same (same_upd (Same.refl H) nq) x1, rfl⟩
    have s1 := same_upd (o := .tup [V.ref nh]) (Same.refl H) nq
    have fin : ∀ (t : Addr) H', Same H H' → SqT K H' t (List.replicate ps.length (V.ref nh)) → Q (.ref t) H' := fun t H' s2 ht => k t H' s2 ⟨_, ht, by rw [List.length_replicate], fun i x p hx hp => by
      have hm := List.mem_of_getElem? hx
      rw [List.mem_replicate] at hm
      refine ⟨nh, hm.2, ?_⟩
      rw [run_nil_row]
      unfold HeldAt
      rw [held_nil]
      exact hN H'⟩
    refine ⟨q, (xs.length : Int), [V.ref nh], rfl, rfl, sqt_new, by simp, by omega, by omega, (by show 1 ≤ 1000; decide), fun e1 => fin q _ s1 ?_, fun _ t nt => fin t _ (same_upd s1 nt) ?_⟩
    · have e1 : xs.length = 1 := by omega
      rw [← x2, e1]
      exact sqt_new
    · rw [Int.toNat_natCast, rep_flat, x2]
      exact sqt_new
/-- a number through a chain -/
def spAdv (K : PySem.W.Frag) : Sp := fun vs H Q _ => ∃ (c a : Addr) (x : Int) (ps : List Stp) (row : List Int), vs = [.ref c, .ref a, .int x] ∧ StpsAt K H c ps ∧ (∀ p ∈ ps, p.ok) ∧ ps.length ≤ 4 ∧ StateAt K H a ps row ∧
  ∀ (t g a' : Addr) H', Same H H' → SqT K H' t [.ref g, .ref a'] → SqT K H' g ((newM ps row [x]).map V.int) → StateAt K H' a' ps (row ++ [x]) → Q (.ref t) H'
abbrev NAv : List Str := ["chain", "state", "number", "numbers", "state_behind", "step", "held", "held_behind"]
theorem scAdvance : FnScope NAv ["chain", "state", "number"] (defScope sAdvance) := ⟨rfl, rfl, rfl, by decide +kernel, rfl, by decide +kernel, by decide +kernel⟩
theorem ok_advance {f : Addr} {fd : FuncData} (F : Fun K "advance" "advance" sAdvance f fd) (T : Blt mg) (CP : Cal P w K mg base CX0 2 "pass_through" ["step", "held", "numbers"] (spPassT K)) : FnOk P w K mg base CX0 3 f fd ["chain", "state", "number"] (spAdv K) := by
  refine F.ok scAdvance (fun vs H Q E h => ?_) (fun cdv A outer s H vs Q E hr h => ?_)
  · obtain ⟨c, a, x, ps, row, rfl, _⟩ := h
    rfl
  · obtain ⟨c, a, x, ps, row, rfl, hc, hok, hl, ha, k⟩ := h
    have nd := scAdvance.nd
    refine ⟨_, pss_cons (ps_set (i := 3) nd rfl (Or.inl rfl) (pe_lst (pa_cons (pv 2) pa_nil)))
      (pss_cons (ps_set (i := 4) nd rfl (Or.inl rfl) (pe_lst pa_nil))
      (pss_cons (ps_for PassesOwn.never rfl (RZ.pi_zipA (by rfl) T.zip (pa_cons (pv 0) (pa_cons (pv 1) pa_nil))) (pg_tup rfl (pgs_cons (pg_name (i := 5) nd rfl (Or.inl rfl)) (pgs_cons (pg_name (i := 6) nd rfl (Or.inl rfl)) pgs_nil)))
        (pss_cons (ps_asg (pe_cal CP hr pass0 (pa_cons (pv 5) (pa_cons (pv 6) (pa_cons (pv 3) pa_nil)))) (pg_tup rfl (pgs_cons (pg_name (i := 3) nd rfl (Or.inl rfl)) (pgs_cons (pg_name (i := 7) nd rfl (Or.inl rfl)) pgs_nil))))
        (pss_one (ps_expr (pe_bm PySem.F.plainAttrs_list PySem.F.slot_list_append PySem.F.type_list_append mt_append (pv 4) (pa_cons (pv 7) pa_nil))))))
      (pss_one (ps_ret (pe_tup (pa_cons (pe_callTy call_tuple_of (by rfl) T.tuple (by decide +kernel) (pa_cons (pv 3) pa_nil)) (pa_cons (pe_callTy call_tuple_of (by rfl) T.tuple (by decide +kernel) (pa_cons (pv 4) pa_nil)) pa_nil))))))), ?_⟩
    obtain ⟨cs, c1, c2, c3⟩ := hc
    obtain ⟨ss, a1, a2, a3⟩ := ha
    refine ⟨_, rfl, (by show 1 ≤ sizeLine; decide), fun l0 n0 => ⟨(by show 0 ≤ sizeLine; decide), fun o no => ?_⟩⟩
    have s0 := same_upd (o := .lst [V.int x]) (Same.refl H) n0
    have e0 : upd H l0 (.lst [V.int x]) l0 = some (.lst [V.int x]) := upd_same
    generalize upd H l0 (.lst [V.int x]) = H1 at s0 e0 no ⊢
    have s1 := same_upd (o := .lst []) s0 no
    have e1 : upd H1 o (.lst []) l0 = some (.lst [V.int x]) := (upd_ne (ne_of_none e0 no)).trans e0
    have eo : upd H1 o (.lst []) o = some (.lst []) := upd_same
    have noH : H o = none := by
      cases q : H o with
      | none => rfl
      | some v => rw [s0 _ _ q] at no; cases no
    generalize upd H1 o (.lst []) = H2 at s1 e1 eo ⊢
    refine ⟨_, rfl, _, rfl, c, a, cs, ss, rfl, .inr ⟨sqt_same s1 c1, sqt_same s1 a1, RZ.for_zipT (K := K) (xs := cs) (ys := ss) (by rw [c2, a2])
      (fun i σ H3 => ∃ (l : Addr) (bs : List V) (v5 v6 v7 : Option V), σ = [some (.ref c), some (.ref a), some (.int x), some (.ref l), some (.ref o), v5, v6, v7] ∧ Same H H3 ∧ H3 l = some (.lst ((newM (ps.take i) row [x]).map V.int)) ∧ H3 o = some (.lst bs) ∧ l ≠ o ∧ bs.length = i ∧
        ∀ (j : Nat) (y : V) (p : Stp), bs[j]? = some y → ps[j]? = some p → ∃ b, y = .ref b ∧ HeldAt K H3 b (p.held (runM (ps.take j) (row ++ [x]))))
      ⟨l0, [], none, none, none, rfl, s1, e1, eo, ne_of_none e0 (by assumption), rfl, fun j y p h _ => by simp at h⟩ (fun i σ H3 ⟨_, _, _, _, _, _, s3, _⟩ => ⟨sqt_same s3 c1, sqt_same s3 a1⟩) ?_ ?_⟩⟩
    · rintro i y z T σ H3 hy hz ⟨l, bs, v5, v6, v7, rfl, s3, el, eo3, lo, hb, hat⟩ hT
      have hiy := get_lt hy
      obtain ⟨p, hp⟩ : ∃ p, ps[i]? = some p := ⟨ps[i]'(by omega), List.getElem?_eq_getElem (by omega)⟩
      obtain ⟨b, rfl, hbv⟩ := c3 i y p hy hp
      obtain ⟨hd, rfl, hhd⟩ := a3 i z p hz hp
      have et : ps.take (i + 1) = ps.take i ++ [p] := take_succ_get hp
      have s4 := same_upd (o := .tup [V.ref b, .ref hd]) s3 hT
      have el4 : upd H3 T (.tup [V.ref b, .ref hd]) l = _ := (upd_ne (ne_of_none el hT)).trans el
      have eo4 : upd H3 T (.tup [V.ref b, .ref hd]) o = _ := (upd_ne (ne_of_none eo3 hT)).trans eo3
      have s34 := same_upd (o := .tup [V.ref b, .ref hd]) (Same.refl H3) hT
      have hnl : (newM (ps.take i) row [x]).length ≤ 1000 := by
        have h1 := newM_len (ps.take i) row [x]
        have h2 : (ps.take i).length ≤ 4 := by rw [List.length_take]; omega
        have h3 : 2 ^ (ps.take i).length ≤ 2 ^ 4 := Nat.pow_le_pow_right (by decide) h2
        rw [List.length_singleton] at h1
        omega
      refine ⟨T, [.ref b, .ref hd], rfl, SqT.of upd_same, rfl, _, _, rfl, _, _, rfl, rfl, ?_⟩
      generalize upd H3 T (.tup [V.ref b, .ref hd]) = H4 at s4 el4 eo4 s34 ⊢
      refine ⟨_, rfl, _, rfl, _, rfl, b, hd, l, p, runM (ps.take i) row, newM (ps.take i) row [x], rfl, hok p (List.mem_of_getElem? hp), sqt_same s4 hbv, hhd.same s4, SqL.of el4, hnl, fun t o2 h2 H5 s5 ht no2 eo2 hh2 => ?_⟩
      refine ⟨t, _, rfl, ht, rfl, _, _, rfl, _, _, rfl, rfl, ?_⟩
      have eo5 := s5 _ _ eo4
      have oo : o2 ≠ o := fun w => by rw [w, eo4] at no2; cases no2
      refine ⟨_, rfl, .inl ⟨rfl, _, SqL.of eo5⟩, _, rfl, o, bs, .ref h2, rfl, rfl, eo5, small1000 (by omega), ?_⟩
      refine ⟨o2, bs ++ [.ref h2], _, _, _, rfl, ?_, ?_, upd_same, oo, by rw [List.length_append, hb]; rfl, ?_⟩
      · intro b1 o1 hb1
        rw [upd_ne (ne_of_none hb1 noH)]
        exact s5 _ _ (s4 _ _ hb1)
      · rw [upd_ne oo, et, newM_append]
        exact eo2
      · intro j q p' hq hp'
        by_cases hj : j < bs.length
        · rw [List.getElem?_append_left hj] at hq
          obtain ⟨c', e1, e2⟩ := hat j q p' hq hp'
          exact ⟨c', e1, sqt_lst eo5 ((e2.same s34).same s5)⟩
        · have hj2 := get_lt hq
          rw [List.length_append, List.length_singleton] at hj2
          have ej : j = bs.length := by omega
          subst ej
          rw [List.getElem?_append_right (Nat.le_refl _), Nat.sub_self] at hq
          have hq : V.ref h2 = q := Option.some.inj hq
          subst hq
          rw [hb] at hp' ⊢
          rw [hp] at hp'
          have hp' : p = p' := Option.some.inj hp'
          subst hp'
          refine ⟨h2, rfl, sqt_lst eo5 ?_⟩
          rw [run_snoc]
          exact hh2
    · rintro σ H3 ⟨l, bs, v5, v6, v7, rfl, s3, el, eo3, lo, hb, hat⟩
      rw [c2, List.take_length] at el
      refine ⟨_, rfl, l, _, rfl, .inl ⟨SqL.of el, fun g ng => ⟨_, rfl, o, bs, rfl, .inl ⟨SqL.of ((upd_ne (ne_of_none eo3 ng)).trans eo3), fun q nq => ⟨(by show 2 ≤ sizeLine; decide), fun t nt => ?_⟩⟩⟩⟩⟩
      have s4 := same_upd (o := .tup ((newM ps row [x]).map V.int)) (Same.refl H3) ng
      have s5 := same_upd (o := .tup bs) (Same.refl _) nq
      have s6 := same_upd (o := .tup [V.ref g, .ref q]) (Same.refl _) nt
      refine k t g q _ (Same.trans (Same.trans (Same.trans s3 s4) s5) s6) sqt_new (sqt_same s6 (sqt_same s5 sqt_new)) ⟨bs, sqt_same s6 sqt_new, by rw [hb, c2], fun j y p hy hp => ?_⟩
      obtain ⟨b, e1, e2⟩ := hat j y p hy hp
      exact ⟨b, e1, ((e2.same s4).same s5).same s6⟩
end
end FC
set_option Elab.async false
set_option linter.all false
set_option maxRecDepth 100000
set_option maxHeartbeats 1000000
/-! What run promises. -/
namespace FC
open PySem PySem.Spec PyProof.Rows L2
def rowOkV : V → Bool
  | .int i => decide (-1000000000000000000000000000000 ≤ i) && decide (i ≤ 1000000000000000000000000000000)
  | _ => false
def rowOkO : Option (List V) → Bool
  | some xs => decide (xs.length ≤ 60) && xs.all rowOkV
  | none => false
/-- what run promises -/
def spRunP (K : PySem.W.Frag) (c0 c1 : Addr) : Sp := fun vs H Q E => ∃ x y, vs = [x, y] ∧
  ((∃ (b : Addr) (ps : List Stp) (r : Addr) (row : List Int), x = .ref b ∧ ChainAt K H b (ps.map Stp.v) ∧ (∀ p ∈ ps, p.ok) ∧ chainOk (ps.map Stp.v) = true ∧ y = .ref r ∧ SqT K H r (row.map V.int) ∧ rowOkO (some (row.map V.int)) = true ∧ ∀ t H', Same H H' → SqT K H' t ((runM ps row).map V.int) → Q (.ref t) H') ∨
   (∃ oo, ChainV K H x oo ∧ chainOkO oo = false ∧ ∀ H', Same H H' → E (.ref c0) none H') ∨
   (∃ oo ro, ChainV K H x oo ∧ chainOkO oo = true ∧ StepV K H y ro ∧ rowOkO ro = false ∧ ∀ H', Same H H' → E (.ref c1) none H'))
end FC
set_option Elab.async false
set_option linter.all false
set_option maxRecDepth 100000
set_option maxHeartbeats 4000000
/-! The program's check of numbers. -/
namespace FC
open PySem L2
abbrev big : Int := 1000000000000000000000000000000
def spIsNumber (K : PySem.W.Frag) : Sp := fun vs H Q _ => ∃ x, vs = [x] ∧ Nice K H x ∧ ∀ H', Same H H' → Q (.bl (rowOkV x)) H'
theorem rowOkV_isW {x : V} (h : isW x = false) : rowOkV x = false := by
  cases x <;> first | rfl | cases h
section
variable {P : Program} {w : World} {K : PySem.W.Frag} {mg : Str → Option Value} {base : Heap}
theorem scIsNumber : FnScope ["value"] ["value"] (defScope sIsNumber) := ⟨rfl, rfl, rfl, by decide +kernel, rfl, by decide +kernel, by decide +kernel⟩
theorem ok_isNumber {f : Addr} {tG : Tok} {fd : FuncData} (F : Fun K "is_number" "is_number" sIsNumber f fd) (CW : Cal P w K mg base CX0 1 "is_whole" ["value"] (spIsWhole K)) (mG : mg "GREATEST" = some (.int big tG)) : FnOk P w K mg base CX0 2 f fd ["value"] (spIsNumber K) := by
  refine F.ok scIsNumber (fun vs H Q E h => ?_) (fun cdv A outer s H vs Q E hr h => ?_)
  · obtain ⟨x, rfl, _⟩ := h
    rfl
  · obtain ⟨x, rfl, hx, k⟩ := h
    refine ⟨_, pss_one (ps_ret (pe_and (pe_cal CW hr pass0 (pa_cons (pv 0) pa_nil))
      (pe_and (pe_cmp (pc_le (pe_un un_neg (pe_glob (v := .int big) rfl mG ⟨_, rfl⟩)) (pv 0))) (pe_one (pe_cmp (pc_le (pv 0) (pe_glob (v := .int big) rfl mG ⟨_, rfl⟩))))))), ?_⟩
    refine ⟨_, rfl, x, rfl, hx, _, rfl, ?_⟩
    have k0 := k H (Same.refl H)
    cases hW : isW x with
    | false =>
      rw [rowOkV_isW hW] at k0
      exact iteF k0
    | true =>
      obtain ⟨n, rfl⟩ : ∃ n, x = V.int n := by
        cases x <;> first | exact ⟨_, rfl⟩ | cases hW
      refine iteT ?_
      have k0 : Q (.bl (decide (-big ≤ n) && decide (n ≤ big))) H := k0
      refine ⟨_, rfl, _, rfl, _, _, rfl, rfl, _, rfl, ?_⟩
      refine ite2 (fun h1 => ?_) (fun h1 => ?_)
      · have h1 : decide (-big ≤ n) = true := h1
        rw [h1, Bool.true_and] at k0
        exact ⟨_, rfl, _, _, rfl, rfl, k0⟩
      · have h1 : ¬ decide (-big ≤ n) = true := h1
        rw [eq_false_of_ne_true h1, Bool.false_and] at k0
        exact k0
end
end FC
set_option Elab.async false
set_option linter.all false
set_option maxRecDepth 100000
set_option maxHeartbeats 1000000
/-! A step that is one, as a kind with its numbers. -/
namespace FC
open PySem L2
theorem within_end {xs : List V} {a : Int} (h : within [] xs a = true) : xs = [] := by
  cases xs with
  | nil => rfl
  | cons x r => cases h
theorem within_step {l : Str} {ls : List Str} {xs : List V} {a : Int} (h : within (l :: ls) xs a = true) : ∃ n r, xs = .int n :: r ∧ (lohi l a).1 ≤ n ∧ n ≤ (lohi l a).2 ∧ within ls r n = true := by
  cases xs with
  | nil => cases h
  | cons x r =>
    cases x <;> first | cases h | skip
    rename_i n
    have h : (!(decide (n < (lohi l a).1) || decide (n > (lohi l a).2)) && within ls r n) = true := h
    rw [Bool.and_eq_true, Bool.not_eq_true', Bool.or_eq_false_iff, decide_eq_false_iff_not, decide_eq_false_iff_not] at h
    exact ⟨n, r, rfl, by omega, by omega, h.2⟩
theorem lohi_a (x : Int) : lohi "a" x = (-3, 3) := rfl
theorem lohi_b (x : Int) : lohi "b" x = (-9, 9) := rfl
theorem lohi_m (x : Int) : lohi "m" x = (2, 3) := rfl
theorem lohi_k (x : Int) : lohi "k" x = (2, 3) := rfl
theorem lohi_r (x : Int) : lohi "r" x = (0, x - 1) := rfl
theorem stp_of {ys : List V} (h : stepOk ys = true) : ∃ p : Stp, ys = p.v ∧ p.ok := by
  match ys, h with
  | .str name :: rest, h =>
    have h : stepOkN name rest = true := h
    unfold stepOkN at h
    split at h
    · rename_i ls hl
      have hm := lookup_mem hl
      rw [Bool.and_eq_true] at h
      have hw := h.2
      unfold tab at hm
      simp only [List.mem_cons, List.mem_nil_iff, or_false, Prod.mk.injEq] at hm
      rcases hm with ⟨rfl, rfl⟩ | ⟨rfl, rfl⟩ | ⟨rfl, rfl⟩ | ⟨rfl, rfl⟩ | ⟨rfl, rfl⟩ | ⟨rfl, rfl⟩ | ⟨rfl, rfl⟩ | ⟨rfl, rfl⟩ | ⟨rfl, rfl⟩ | ⟨rfl, rfl⟩
      · obtain ⟨a, r1, rfl, a1, a2, hw⟩ := within_step hw
        obtain ⟨b, r2, rfl, b1, b2, hw⟩ := within_step hw
        rw [within_end hw]
        rw [lohi_a] at a1 a2
        rw [lohi_b] at b1 b2
        exact ⟨.line a b, rfl, a1, a2, b1, b2⟩
      · obtain ⟨m, r1, rfl, m1, m2, hw⟩ := within_step hw
        obtain ⟨r, r2, rfl, q1, q2, hw⟩ := within_step hw
        obtain ⟨a, r3, rfl, a1, a2, hw⟩ := within_step hw
        obtain ⟨b, r4, rfl, b1, b2, hw⟩ := within_step hw
        rw [within_end hw]
        rw [lohi_a] at a1 a2
        rw [lohi_b] at b1 b2
        rw [lohi_m] at m1 m2
        rw [lohi_r] at q1 q2
        have m1 : (2 : Int) ≤ m := m1
        have m2 : m ≤ (3 : Int) := m2
        have q2 : r ≤ m - 1 := q2
        exact ⟨.turn m r a b, rfl, by unfold two3; omega, q1, by omega, a1, a2, b1, b2⟩
      · obtain ⟨m, r1, rfl, m1, m2, hw⟩ := within_step hw
        obtain ⟨r, r2, rfl, q1, q2, hw⟩ := within_step hw
        rw [within_end hw]
        rw [lohi_m] at m1 m2
        rw [lohi_r] at q1 q2
        have m1 : (2 : Int) ≤ m := m1
        have m2 : m ≤ (3 : Int) := m2
        have q2 : r ≤ m - 1 := q2
        exact ⟨.keep m r, rfl, by unfold two3; omega, q1, by omega⟩
      · obtain ⟨m, r1, rfl, m1, m2, hw⟩ := within_step hw
        obtain ⟨r, r2, rfl, q1, q2, hw⟩ := within_step hw
        rw [within_end hw]
        rw [lohi_k] at m1 m2
        rw [lohi_r] at q1 q2
        have m1 : (2 : Int) ≤ m := m1
        have m2 : m ≤ (3 : Int) := m2
        have q2 : r ≤ m - 1 := q2
        exact ⟨.every m r, rfl, by unfold two3; omega, q1, by omega⟩
      · rw [within_end hw]
        exact ⟨.twice, rfl, trivial⟩
      · rw [within_end hw]
        exact ⟨.sums, rfl, trivial⟩
      · obtain ⟨m, r1, rfl, m1, m2, hw⟩ := within_step hw
        obtain ⟨r, r2, rfl, q1, q2, hw⟩ := within_step hw
        rw [within_end hw]
        rw [lohi_m] at m1 m2
        rw [lohi_r] at q1 q2
        have m1 : (2 : Int) ≤ m := m1
        have m2 : m ≤ (3 : Int) := m2
        have q2 : r ≤ m - 1 := q2
        exact ⟨.anew m r, rfl, by unfold two3; omega, q1, by omega⟩
      · rw [within_end hw]
        exact ⟨.gaps, rfl, trivial⟩
      · obtain ⟨m, r1, rfl, m1, m2, hw⟩ := within_step hw
        rw [within_end hw]
        rw [lohi_k] at m1 m2
        have m1 : (2 : Int) ≤ m := m1
        have m2 : m ≤ (3 : Int) := m2
        exact ⟨.groups m, rfl, by show two3 m; unfold two3; omega⟩
      · rw [within_end hw]
        exact ⟨.count, rfl, trivial⟩
    · cases h
theorem stps_of : ∀ {cs : List (List V)}, (∀ ys ∈ cs, stepOk ys = true) → ∃ ps : List Stp, cs = ps.map Stp.v ∧ ∀ p ∈ ps, p.ok
  | [], _ => ⟨[], rfl, fun p h => by cases h⟩
  | ys :: r, h => by
    obtain ⟨p, e, hp⟩ := stp_of (h ys (by simp))
    obtain ⟨ps, e2, h2⟩ := stps_of (cs := r) fun z hz => h z (List.mem_cons_of_mem _ hz)
    refine ⟨p :: ps, by rw [e, e2]; rfl, fun q hq => ?_⟩
    rcases List.mem_cons.mp hq with z | z
    · rw [z]
      exact hp
    · exact h2 q z
theorem stps_at {K : PySem.W.Frag} {H : Hp} {a : Addr} {ps : List Stp} (h : ChainAt K H a (ps.map Stp.v)) : StpsAt K H a ps := by
  obtain ⟨xs, h1, h2⟩ := h
  refine ⟨xs, h1, by rw [h2.len, List.length_map, List.length_map], fun i x p hx hp => ?_⟩
  obtain ⟨b, e1, e2, _⟩ := h2.at_ i x (some p.v) hx (by rw [List.getElem?_map, List.getElem?_map, hp]; rfl)
  exact ⟨b, e1, e2⟩
end FC
set_option Elab.async false
set_option linter.all false
set_option maxRecDepth 100000
set_option maxHeartbeats 4000000
namespace FC
open PySem L2
theorem SameX.upd {d p : Addr} {H H' : Hp} {o : HO} (e : SameX d H H') (h : H' p = none) : SameX d H (L2.upd H' p o) := fun b u q n => by
  have q' := e b u q n
  rw [upd_ne (ne_of_none q' h)]
  exact q'
theorem SameX.free {d l : Addr} {H H' : Hp} (e : SameX d H H') (hd : l ≠ d) (h : H' l = none) : H l = none := by
  cases q : H l with
  | none => rfl
  | some o =>
    rw [e l o q hd] at h
    cases h
theorem Dice.same {d : Addr} {H H' : Hp} (s : Same H H') (h : Dice H d) : Dice H' d := by
  obtain ⟨a, b, e⟩ := h
  exact ⟨a, b, s _ _ e⟩
theorem Dice.ne {d p : Addr} {H : Hp} (h : Dice H d) (n : H p = none) : d ≠ p := by
  obtain ⟨a, b, e⟩ := h
  exact ne_of_none e n
section
variable {P : Program} {w : World} {K : PySem.W.Frag} {mg : Str → Option Value} {base : Heap}
theorem scRoll : FnScope ["_law_dice", "_law_many", "_law_told_here"] ["_law_dice", "_law_many"] (defScope sRoll) := ⟨rfl, rfl, rfl, by decide +kernel, rfl, by decide +kernel, by decide +kernel⟩
theorem ok_roll {f : Addr} {fd : FuncData} (F : Fun K "_law_roll" "_law_roll" sRoll f fd) (CD : Cal P w K mg base CX0 1 "_law_drawn" ["_law_cell_here", "_law_k"] spDrawn) : FnOk P w K mg base CX0 2 f fd ["_law_dice", "_law_many"] spRoll := by
  refine F.ok scRoll (fun vs H Q E h => ?_) (fun cdv A outer s H vs Q E hr h => ?_)
  · obtain ⟨a, k, rfl, _⟩ := h
    rfl
  · obtain ⟨d, m, rfl, ⟨a, b, hd⟩, h1, h2, q⟩ := h
    have nd := scRoll.nd
    refine ⟨_, pss_cons (ps_if (pt_cmp (pc_ge (pe_ix ix_list (pv 0) pe_int (fun _ _ => rfl)) (pe_op op_pow pe_int pe_int)))
        (pss_cons (ps_set (i := 2) nd rfl (Or.inl rfl) (pe_op op_mod (pe_ix ix_list (pv 0) pe_int (fun _ _ => rfl)) (pv 1)))
        (pss_cons (ps_asg (pe_op op_fdivW (pe_ix ix_list (pv 0) pe_int (fun _ _ => rfl)) (pv 1)) (pg_sub (pv 0) pe_int set_list))
        (pss_one (ps_ret (pv 2))))) pss_nil)
      (pss_cons (ps_asg (pe_op op_add (pe_ix ix_list (pv 0) pe_int (fun _ _ => rfl)) pe_int) (pg_sub (pv 0) pe_int set_list))
      (pss_one (ps_ret (pe_op op_mod (pe_op op_fdiv (pe_cal CD hr pass0 (pa_cons (pe_ix ix_list (pv 0) pe_int (fun _ _ => rfl)) (pa_cons (pe_ix ix_list (pv 0) pe_int (fun _ _ => rfl)) pa_nil))) pe_int) (pv 1))))), ?_⟩
    have at0' : ∀ x y : Int, atI [V.int x, V.int y] 0 = some (V.int x) := fun x y => at0 _ _
    have at1' : ∀ x y : Int, atI [V.int x, V.int y] 1 = some (V.int y) := fun x y => by
      have h := atI_nat (xs := [V.int x, V.int y]) (j := 1) (v := V.int y) rfl
      exact h
    have only : ∀ (o : HO), SameX d H (upd H d o) := fun o c u e n => by
      rw [upd_ne n]
      exact e
    have hm : (0 : Int) < m := by omega
    have hb200 : m.natAbs < 2 ^ 200 := by
      have e : (2 : Nat) ^ 200 = 1606938044258990275541962092341162602522202993782792835301376 := by decide +kernel
      rw [e]
      omega
    refine ⟨_, rfl, d, _, _, _, rfl, rfl, SqL.of hd, at0' a b, _, _, rfl, rfl, ⟨by decide, by decide, by decide⟩, _, _, rfl, rfl, _, rfl, ?_⟩
    refine ite2 (fun _ => ?_) (fun _ => ?_)
    · refine ⟨_, rfl, d, _, _, _, rfl, rfl, SqL.of hd, at0' a b, _, rfl, _, _, rfl, rfl, hm, ?_⟩
      refine ⟨_, rfl, d, _, _, _, rfl, rfl, SqL.of hd, at0' a b, _, rfl, _, _, rfl, rfl, wide_div hm (b := 200) hb200 (by decide) (by decide), ?_⟩
      refine ⟨_, rfl, d, _, _, 0, rfl, rfl, hd, rfl, ?_⟩
      exact ⟨_, rfl, q _ _ (Int.emod_nonneg _ (Int.ne_of_gt hm)) (Int.emod_lt_of_pos _ hm) ⟨_, _, upd_same⟩ (only _)⟩
    · refine ⟨_, rfl, d, _, _, _, rfl, rfl, SqL.of hd, at1' a b, _, _, rfl, rfl, ?_⟩
      refine ⟨_, rfl, d, _, _, 1, rfl, rfl, hd, rfl, ?_⟩
      have hd2 : upd H d (.lst ([V.int a, V.int b].set 1 (V.int (b + 1)))) d = some (.lst [V.int a, V.int (b + 1)]) := upd_same
      refine ⟨_, rfl, d, _, _, _, rfl, rfl, SqL.of hd2, at0' a (b + 1), _, rfl, d, _, _, _, rfl, rfl, SqL.of hd2, at1' a (b + 1), a, b + 1, rfl, fun r hr0 => ?_⟩
      refine ⟨_, _, rfl, rfl, ⟨by decide, by decide⟩, _, rfl, _, _, rfl, rfl, hm, ?_⟩
      exact q _ _ (Int.emod_nonneg _ (Int.ne_of_gt hm)) (Int.emod_lt_of_pos _ hm) ⟨_, _, upd_same⟩ (only _)
end
end FC
set_option Elab.async false
set_option linter.all false
set_option maxRecDepth 100000
set_option maxHeartbeats 4000000
namespace FC
open PySem L2
def strInt : V → Bool
  | .str _ => true
  | .int _ => true
  | _ => false
theorem strInt_nice {K : PySem.W.Frag} {H : Hp} {y : V} (h : strInt y = true) : Nice K H y := by
  cases y <;> first | exact Nice.str _ | exact Nice.int _ | cases h
end FC
set_option Elab.async false
set_option linter.all false
set_option maxRecDepth 100000
set_option maxHeartbeats 4000000
namespace FC
open PySem L2
theorem sqt_sameX {K : PySem.W.Frag} {H H' : Hp} {a d : Addr} {xs : List V} (h : SqT K H a xs) (hd : Dice H d) (s : SameX d H H') : SqT K H' a xs := by
  obtain ⟨x, y, e⟩ := hd
  rcases h with (h | ⟨o, h⟩) | h
  · exact .inl (.inl (s _ _ h (ne_of h e (by intro z; cases z))))
  · exact .inl (.inr ⟨o, s _ _ h (ne_of h e (by intro z; cases z))⟩)
  · exact .inr h
theorem stepOk_strInt {ys : List V} (h : stepOk ys = true) : ∀ y ∈ ys, strInt y = true := by
  obtain ⟨name, ns, rfl, _⟩ := stepOk_shape h
  intro y hy
  rcases List.mem_cons.mp hy with z | z
  · rw [z]
    rfl
  · obtain ⟨n, _, rfl⟩ := List.mem_map.mp z
    rfl
theorem chainAt_sameX {K : PySem.W.Frag} {H H' : Hp} {a d : Addr} {cs : List (List V)} (h : ChainAt K H a cs) (hc : chainOk cs = true) (hd : Dice H d) (s : SameX d H H') : ChainAt K H' a cs := by
  obtain ⟨xs, h1, h2⟩ := h
  refine ⟨xs, sqt_sameX h1 hd s, h2.len, fun i x o hx ho => ?_⟩
  have hi := get_lt ho
  rw [List.length_map] at hi
  have e : (cs.map some)[i]? = some (some cs[i]) := by rw [List.getElem?_map, List.getElem?_eq_getElem hi]; rfl
  rw [e] at ho
  have ho : some cs[i] = o := Option.some.inj ho
  subst ho
  obtain ⟨b, e1, e2, _⟩ := h2.at_ i x _ hx e
  exact ⟨b, e1, sqt_sameX e2 hd s, fun y hy => strInt_nice (stepOk_strInt (chainOk_steps hc _ (List.getElem_mem hi)) y hy)⟩
theorem Steps.snoc {K : PySem.W.Frag} {H : Hp} {xs : List V} {os : List (Option (List V))} {x : V} {o : Option (List V)} (h : Steps K H xs os) (hx : StepV K H x o) : Steps K H (xs ++ [x]) (os ++ [o]) := by
  refine ⟨by rw [List.length_append, List.length_append, h.len]; rfl, fun i y p hy hp => ?_⟩
  by_cases hi : i < xs.length
  · rw [List.getElem?_append_left hi] at hy
    rw [List.getElem?_append_left (by rw [← h.len]; exact hi)] at hp
    exact h.at_ i y p hy hp
  · have hi2 := get_lt hy
    rw [List.length_append] at hi2
    have hi2 : i < xs.length + 1 := hi2
    have ei : i = xs.length := by omega
    subst ei
    rw [List.getElem?_append_right (Nat.le_refl _), Nat.sub_self] at hy
    rw [h.len, List.getElem?_append_right (Nat.le_refl _), Nat.sub_self] at hp
    have hy : x = y := Option.some.inj hy
    have hp : o = p := Option.some.inj hp
    rw [← hy, ← hp]
    exact hx
end FC
set_option Elab.async false
set_option linter.all false
set_option maxRecDepth 100000
set_option maxHeartbeats 4000000
/-! While an exception is handled: a list's iterator at its end, sums, a comprehension of numbers of truth values, isinstance of the exception itself. -/
namespace FC
open PySem PySem.Spec PyProof.Rows L2
section
variable {prog : Program} {w : World} {A : Around} {E : Value → Shared → Prop} {s : Shared}
/-- the iterator has nothing more to give -/
theorem list_out_hot {it l x1 : Addr} {i : Nat} {items : Array Value} {Q : Option Value → Shared → Prop} (hot : HotX.HotAt A x1 s.heap) (apart : x1 ≠ it) (p : s.heap.IsListIter it l i) (q : s.heap.IsList l items) (out : items[i]? = none)
    (go : ∀ h', Heap.ExtBut it s.heap h' → Q none { s with heap := h' }) : wpAny (model prog w) A (pyNext (.ref it)) Q E s := by
  obtain ⟨o, a1, a2, a3⟩ := id p
  obtain ⟨ol, b1, _, n, b3⟩ := q
  obtain ⟨hh, ox, vx, c1, c2, c3⟩ := hot
  unfold pyNext
  refine wpAny_bind (wpAny_attempt (wpAny_callSpecial?_slot (name := Str.ofString "__next__") p.typeIs slot_listiter_next (wpAny_call_entry slot_listiter_next p.typeIs entry_listiter_next ?_ (args_listiter_next _))))
  show wpAny _ _ (field (.ref it) 0 >>= fun _ => _) _ _ s
  refine wpAny_bind (wpAny_field a1 a3 (x := .ref l) rfl ?_)
  show wpAny _ _ (if (Value.ref l == Value.none) = true then _ else _) _ _ s
  rw [if_neg (fun z : (Value.ref l == Value.none) = true => Bool.noConfusion z)]
  show wpAny _ _ (field (.ref it) 1 >>= fun _ => _) _ _ s
  refine wpAny_bind (wpAny_field a1 a3 (x := .int i 0) rfl ?_)
  show wpAny _ _ (seqItems? (.ref l) >>= fun _ => _) _ _ s
  refine wpAny_bind (wpAny_seqItems b1 b3 ?_)
  simp only [Int.toNat_natCast, out]
  refine wpAny_bind (wpAny_rule (wpAny_bind (wpAny_setField a1 a3 (by simp) ?_)))
  show wpAny _ _ (newExc (.type "StopIteration") [] >>= fun _ => _) _ _ _
  refine wpAny_bind ?_
  simp only [newExc, newTuple]
  refine wpAny_bind (wpAny_newObj_type ?_ (by size_fits))
  refine wpAny_bind (m := firstArgMember _ _) (wpAny_of_eq (a := Value.none) (by first | rfl | (simp only [firstArgMember]; rfl)) ?_)
  refine wpAny_newObj_type ?_ (by size_fits)
  have up := fun (b : Addr) (u : Obj) (hb : it ≠ b) (e : s.heap.get? b = some u) => (Heap.get?_update_other s.heap (Obj.mapFields fun x => x.setIfInBounds 0 Value.none) hb).trans e
  refine HotX.raiseNew_hot ⟨hh, ox, vx, Heap.get?_push_of_some _ (Heap.get?_push_of_some _ (up x1 ox apart.symm c1)), c2, c3⟩ (Nat.ne_of_lt (Heap.lt_size (Heap.get?_push_of_some _ (up x1 ox apart.symm c1)))) (Heap.get?_push_size _ rfl) rfl
    (by first | (simp; done) | (simp; omega) | (simp only [Array.size_append]; simp; omega)) ?_
  refine wpAny_bind (wpAny_isInstance (T := "StopIteration") (b := true) ⟨_, Heap.get?_update_self _ (Heap.get?_push_size _ rfl) rfl, rfl⟩ isSubtype_stop ?_)
  refine wpAny_pure (go _ fun b u hb e => ?_)
  have e2 := up b u (fun z => hb z.symm) e
  rw [Heap.get?_update_other _ _ (Nat.ne_of_gt (Heap.lt_size (Heap.get?_push_of_some _ e2)))]
  exact Heap.get?_push_of_some _ (Heap.get?_push_of_some _ e2)
/-- a list's items, one after the other, while the exception at x1 is handled -/
theorem walk_hot {I l x1 : Addr} {items : Array Value} (apart : x1 ≠ I) (other : l ≠ I) :
    Walks prog w A I [I, l, x1] [I] items.size (fun i v => items[i]? = some v) (fun i h => h.IsListIter I l i ∧ h.IsList l items ∧ HotX.HotAt A x1 h) where
  sub := fun b hb => by
    rw [List.mem_singleton.mp hb]
    simp
  frame := fun i h h' st keep => by
    obtain ⟨⟨o, a1, a2, a3⟩, ⟨u, b1, b2⟩, hh, ox, vx, c1, c2⟩ := st
    exact ⟨⟨o, keep I (by simp) o a1, a2, a3⟩, ⟨u, keep l (by simp) u b1, b2⟩, hh, ox, vx, keep x1 (by simp) ox c1, c2⟩
  item := fun i s Q E hi st go => by
    obtain ⟨p, q, hh, ox, vx, c1, c2⟩ := st
    refine wpAny_pyNext_list_item p q (x := items[i]) (by simp [hi]) fun h' p' same => ?_
    exact go _ h' s.toks (by simp [hi]) ⟨p', q.extBut same.extBut other, hh, ox, vx, (same.2 x1 apart).trans c1, c2⟩ fun b o hb e => (same.2 b (fun z => hb (by simp [z]))).trans e
  done := fun s Q E st go => list_out_hot st.2.2 apart st.1 st.2.1 (by simp) fun h' ext => go h' s.toks fun b o hb e => ext b o (fun z => hb (by simp [z])) e
  self := fun _ _ _ _ st go => wpAny_pyIter_listiter st.1 go
theorem hot_fresh {x1 : Addr} {h : Heap} (hot : HotX.HotAt A x1 h) : x1 < h.objs.size := by
  obtain ⟨_, _, _, e, _⟩ := hot
  exact Heap.lt_size e
theorem hot_push {x1 : Addr} {h : Heap} {o : Obj} (hot : HotX.HotAt A x1 h) : HotX.HotAt A x1 (h.push o) := by
  obtain ⟨a, u, v, e, c⟩ := hot
  exact ⟨a, u, v, Heap.get?_push_of_some _ e, c⟩
theorem list_lt {l : Addr} {items : Array Value} {h : Heap} (hl : h.IsList l items) : l < h.objs.size := by
  obtain ⟨_, e, _⟩ := hl
  exact Heap.lt_size e
end
section
variable {X : Cx}
/-- sum of a list of numbers -/
theorem sum_hot (hc : L2H.HotC X) : CallR X (.builtin "sum") (rSum X.K) := by
  intro pins s σ H vs us Q I r h
  obtain ⟨a, ns, rfl, hs, q⟩ := h
  obtain ⟨its, rv, hl, _⟩ := I.list hs
  rw [Vals.ref1 r]
  obtain ⟨x1, hot⟩ := hc.at I
  obtain ⟨xs, e⟩ := rv.ints.allInts.items
  have hn : numsOf (intItems xs).toList = ns := by
    rw [← e]
    exact rv.ints.numsOf
  rw [nums_intItems] at hn
  have hl' := hl.isList
  rw [e] at hl'
  have l1 := hot_fresh hot
  have l2 := list_lt hl'
  refine PySem.call_sum_walkG (wpAny_pyIter_list hl' ?_)
  refine ⟨s.heap.objs.size, [s.heap.objs.size, a, x1], [s.heap.objs.size], _, _, _, numAt xs, rfl, walk_hot (Nat.ne_of_lt l1) (Nat.ne_of_lt l2), ⟨⟨_, Heap.get?_push_size _ rfl, rfl, rfl⟩, hl'.push _, hot_push hot⟩, fun b hb => ?_, fun _ _ => intItems_at, fun h' tk t' keep => ?_⟩
  · show b < (s.heap.push _).objs.size
    rw [Heap.size_push]
    have hb : b = s.heap.objs.size ∨ b = a ∨ b = x1 := by simpa using hb
    rcases hb with z | z | z
    · rw [z]
      exact Nat.lt_succ_self _
    · rw [z]
      exact Nat.lt_succ_of_lt l2
    · rw [z]
      exact Nat.lt_succ_of_lt l1
  · have ev : preSum (numAt xs) (intItems xs).size = ns.sum := by
      have : (intItems xs).size = xs.size := by simp [intItems]
      rw [this, preSum_eq, List.take_of_length_le (by simp), hn]
    rw [ev]
    refine ⟨.int ns.sum, H, I.kept (t' := tk) fun b o e2 => keep b o (fun z => ?_) (Heap.get?_push_of_some _ e2), ⟨_, rfl⟩, q⟩
    rw [List.mem_singleton.mp z] at e2
    exact Nat.lt_irrefl _ (Heap.lt_size e2)
/-- isinstance of the exception that is handled -/
theorem isi_hot {p : Addr × Obj} {D : Addr} (hp : p ∈ X.pn) (C : ExcC X.K D) (hz : Zc (.ref D) none p.2) (hf : ∃ vs, p.2.data = .fields vs) : CallR X (.builtin "isinstance") (rIsE X.K D p.1) := by
  intro pins s σ H xs us Q I r h
  obtain ⟨c, u, b, rfl, hu, e, q⟩ := h
  obtain ⟨u1, u2, rfl, r1, r2⟩ := vals2 r
  cases (show u1 = Value.ref p.1 from r1)
  have e2 := hu _ r2
  subst e2
  have at_ := (I.pin p (List.mem_append_left _ hp)).1
  obtain ⟨vs, hv⟩ := hf
  have J : PySem.W.InstAt s.heap p.1 p.2 D none := by
    obtain ⟨a, oc, od, oda, osl⟩ := p
    obtain ⟨h1, h2⟩ := hz
    dsimp only at h1 h2 hv at_ ⊢
    subst h1 h2 hv
    exact ⟨at_, rfl, rfl, trivial⟩
  exact PySem.W.kia_one (PySem.W.handS_kitx_exc C.hg C.hk C.hs C.hd C.ha C.hn C.ht C.hm) I.kIn J e (fun z => nomatch z) fun tk => ⟨.bl b, H, I.kept (t' := tk) fun _ _ z => z, rfl, q⟩
end
end FC
set_option Elab.async false
set_option linter.all false
set_option maxRecDepth 100000
set_option maxHeartbeats 4000000
namespace FC
open PySem PySem.Spec PyProof.Rows L2
def b01 (b : Bool) : Int := if b then 1 else 0
/-- [int(x) for x in flags], flags in slot i -/
def tInts (K : PySem.W.Frag) (i : Nat) : TE := fun σ H Q => ∃ (a : Addr) (bs : List Bool), σ[i]? = some (some (.ref a)) ∧ SqL K H a (bs.map V.bl) ∧ ∀ D, H D = Option.none → Q (.ref D) (upd H D (.lst ((bs.map b01).map V.int)))
theorem bools_of : ∀ {bs : List Bool} {us : List Value}, Vals (bs.map V.bl) us → us = bs.map Value.bool
  | [], _, .nil => rfl
  | b :: r, _, .cons h t => by
    rw [bools_of (bs := r) t]
    cases h
    rfl
section
variable {X : Cx}
theorem pe_ints_hot {i : Nat} {x y : Str} {scope : Scope} {p1 p2 p3 p4 p5 pos : Pos} (hc : L2H.HotC X) (hi : X.mg "int" = Option.none) (hN : X.N[i]? = some y) (hv : Vis X.env.scope y) (hd : (y == ("__debug__" : Str)) = false) (hcd : (y == ("__classdict__" : Str)) = false)
    (hkind : scope.kind = .function) (hcell : ∀ z ∈ scope.names, z.2 ≠ .cell) (hfree : ∀ z ∈ scope.names, z.2 ≠ .free) (hnames : ∀ z ∈ scope.names, z.2 = .local → scope.names.lookup z.1 = some .local) (hx : scope.names.lookup x = some .local) (hxd : (x == ("__debug__" : Str)) = false)
    (hint : ∀ C cl, (compEnvC scope cl C X.env).kindOf "int" = some .globalImplicit) (hxl : ∀ C cl, (compEnvC scope cl C X.env).kindOf x = some .local)
    (hst : ∀ C cl, starEach [.Name x p2] (compEnvC scope cl C X.env) = (false, eval (.Name x p2) (compEnvC scope cl C X.env)) :: starEach [] (compEnvC scope cl C X.env)) :
    PE X (.ListComp (.Call (.Name "int" p1) [.Name x p2] [] p3) [⟨.Name x p4, .Name y p5, [], 0⟩] scope pos) (tInts X.K i) := by
  refine ⟨fun pins s σ H Q I h => ?_⟩
  obtain ⟨a, bs, hs, ha, q⟩ := h
  obtain ⟨its, rv, hl, hz⟩ := I.list ha
  have eits := bools_of rv
  obtain ⟨x1, hot⟩ := hc.at I
  have l1 := hot_fresh hot
  have l2 := list_lt hl.isList
  have noF : ∀ z ∈ scope.names, z.2 = .free → ∃ c, X.env.cells.lookup z.1 = some c := fun z hz e => absurd e (hfree z hz)
  obtain ⟨mb, hb1, hb2⟩ := I.mod.blt
  refine wpAny_ListComp_free (fun _ => true) (fun v u => ∃ b t, v = Value.bool b ∧ u = Value.int (b01 b) t) (closure_ok noF) hcell hkind hnames hx ?_
  refine thn ((pe_var (pos := p5) hN hv hd hcd).run pins s σ H (fun v H1 => v = .ref a ∧ H1 = H) I ⟨.ref a, hs, rfl, rfl⟩) fun u s1 ⟨v, H1, I1, r1, e1, e2⟩ => ?_
  subst e1 e2
  obtain rfl : u = Value.ref a := r1
  obtain ⟨its1, rv1, hl1, _⟩ := I1.list ha
  have eits1 := bools_of rv1
  obtain ⟨x2, hot1⟩ := hc.at I1
  have l3 := hot_fresh hot1
  have l4 := list_lt hl1.isList
  refine wpAny_pyIter_list hl1.isList ?_
  refine ⟨s1.heap.objs.size, [s1.heap.objs.size, a, x2], [s1.heap.objs.size], _, _, _, rfl, walk_hot (Nat.ne_of_lt l3) (Nat.ne_of_lt l4), ?_, ⟨⟨_, Heap.get?_push_size _ rfl, rfl, rfl⟩, hl1.isList.push _, hot_push hot1⟩, fun b hb => ?_, ⟨?_, ?_⟩, ?_⟩
  · have := rv1.length
    simp only [List.size_toArray]
    omega
  · show b < (s1.heap.push _).objs.size
    rw [Heap.size_push]
    have hb : b = s1.heap.objs.size ∨ b = a ∨ b = x2 := by simpa using hb
    rcases hb with z | z | z
    · rw [z]
      exact Nat.lt_succ_self _
    · rw [z]
      exact Nat.lt_succ_of_lt l4
    · rw [z]
      exact Nat.lt_succ_of_lt l3
  · intro C j v s3 m3 E' _ _ _ _ _ _
    exact wpAny_tests_nil ⟨rfl, s3.heap, s3.toks, rfl, fun _ _ e => e⟩
  · intro C j v s3 m3 E' hC hj _ hn hm keep tk
    have kb : ∀ b o, X.base.get? b = some o → s3.heap.get? b = some o := fun b o e => keep b o (fun z => by
      have := Heap.lt_size (I1.bk b o e)
      rw [List.mem_singleton.mp z] at this
      exact Nat.lt_irrefl _ this) (Heap.get?_push_of_some _ (I1.bk b o e))
    obtain ⟨b, rfl⟩ : ∃ b, v = Value.bool b := by
      rw [eits1] at hj
      simp only [List.getElem?_toArray, List.getElem?_map] at hj
      cases e : bs[j]? with
      | none =>
        rw [e] at hj
        cases hj
      | some b =>
        rw [e] at hj
        exact ⟨b, (Option.some.inj hj).symm⟩
    have hk : (compEnvC scope (cloFrom X.env.cells scope.names []) C X.env).scope.kind = .function := hkind
    refine wpAny_Call_Name_kw (Calls.Name_function_global hk (hint C _) (Calls.loadGlobal_builtin (by show s3.heap.Ns X.env.globals X.mg; rw [I1.ok.glob]; exact I1.mod.glob.keeps kb) hi (by show s3.heap.Ns X.env.builtins mb; rw [I1.ok.blt]; exact hb1.keeps kb) ((hb2 "int" (by decide)).trans (show bootBuiltins "int" = some (.type "int") by decide +kernel)) ?_))
    refine PyProof.Rows.callWith_type1 (Calls.spliced_cons (wpAny_Name (wpAny_loadName_local hk (hxl C _) hn hm ?_) hxd)) (hst C _) (by rfl)
    refine Calls.spliced_nil (call_int_bool ⟨⟨b, _, rfl, rfl⟩, s3.heap, s3.toks + 1, rfl, fun _ _ e => e⟩)
  · intro D h' tk ys vs hD _ hp hlen hP hF keep
    have evs : vs = bs.map Value.bool := by
      rw [← eits1]
      refine List.ext_getElem? fun j => ?_
      by_cases hj : j < vs.length
      · have e1 : vs[j]? = some vs[j] := List.getElem?_eq_getElem hj
        have e2 := hP j _ e1
        rw [e1]
        simpa using e2.symm
      · rw [List.getElem?_eq_none (by omega), List.getElem?_eq_none (by simpa [hlen] using hj)]
    have hF' : Paired (fun v u => ∃ b t, v = Value.bool b ∧ u = Value.int (b01 b) t) vs ys.toList := by
      have e : vs.filter (fun _ => true) = vs := List.filter_eq_self.mpr fun _ _ => rfl
      rw [← e]
      exact hF
    rw [evs] at hF'
    have rvals : Vals ((bs.map b01).map V.int) ys.toList := by
      have all : ∀ (bs : List Bool) (us : List Value), Paired (fun v u => ∃ b t, v = Value.bool b ∧ u = Value.int (b01 b) t) (bs.map Value.bool) us → Vals ((bs.map b01).map V.int) us := by
        intro bs
        induction bs with
        | nil =>
          intro us h
          cases h
          exact .nil
        | cons b r ih =>
          intro us h
          cases h with
          | cons h t =>
            obtain ⟨b', t', e1, e2⟩ := h
            cases e1
            rw [e2]
            exact .cons ⟨_, rfl⟩ (ih _ t)
      exact all bs _ hF'
    obtain ⟨n, hp⟩ := hp
    have kk : ∀ b o, s1.heap.get? b = some o → h'.get? b = some o := fun b o e => keep b o (fun z => by
      have := Heap.lt_size e
      rw [List.mem_singleton.mp z] at this
      exact Nat.lt_irrefl _ this) (Heap.get?_push_of_some _ e)
    have hD1 : s1.heap.get? D = Option.none := by
      cases e : s1.heap.get? D with
      | none => rfl
      | some o =>
        have := Heap.get?_push_of_some (h := s1.heap) { cls := .type "list_iterator", data := .fields #[.ref a, .int 0 0] } e
        have h2 : (s1.heap.push { cls := .type "list_iterator", data := .fields #[.ref a, .int 0 0] }).get? D = Option.none := hD
        rw [h2] at this
        cases this
    have hDn : H1 D = Option.none := I1.hok.gone hD1
    have I2 : Inv X pins σ (upd H1 D (.lst ((bs.map b01).map V.int))) { s1 with heap := h', toks := tk } := by
      refine I1.laidN (t' := tk) kk hD1 hDn ⟨?_, ys.toList, n, rvals, ?_⟩
      · have := rv1.length
        rw [List.length_map, List.length_map]
        rw [List.length_map] at this hz
        omega
      · simpa using hp
    exact ⟨.ref D, _, I2, rfl, q D hDn⟩
end
end FC
set_option Elab.async false
set_option linter.all false
set_option maxRecDepth 100000
set_option maxHeartbeats 4000000
/-! A def that is called within an except suite and is told of the exception that is handled. -/
namespace FC
open PySem PySem.Spec PyProof.Rows L2
structure FnP (P : Program) (w : World) (K : PySem.W.Frag) (mg : Str → Option Value) (base : Heap) (k : Nat) (f : Addr) (fd : FuncData) (ps : List Str) (sp : Addr × Obj → Sp) : Prop where
  len : ∀ p vs H Q E, sp p vs H Q E → vs.length = ps.length
  run : ∀ (p : Addr × Obj) (A : Around) (out : List Env) (s : Shared) (H : Hp) (args : Args) (us : List Value) (vs : List V) (Q : VK) (E : XK), L2H.RoomH k A → L2H.Hot1 A p → L2H.PinOk out H s p → Env0 P w K mg base A out s H →
    BindsTo s fd args (ps.zip us) → Vals vs us → sp p vs H Q E → codeAny (model P w) A (.call (.ref f) args) (CR CX0 out P w H s Q E) s
theorem okP {P : Program} {w : World} {K : PySem.W.Frag} {mg : Str → Option Value} {base : Heap} {x : Str} {st : Stmt} {f : Addr} {fd : FuncData} {N ps : List Str} {k : Nat} {sp : Addr × Obj → Sp} (F : Fun K x x st f fd) (S : FnScope N ps (defScope st))
    (len : ∀ p vs H Q E, sp p vs H Q E → vs.length = ps.length)
    (body : ∀ (c : Value) (p : Addr × Obj) (A : Around) (out : List Env) (s : Shared) (H : Hp) (vs : List V) (Q : VK) (E : XK), L2H.Hot1 A p → L2H.RoomH k (A.deeper (envOfC x (defScope st) s.heap.objs.size f c)) → sp p vs H Q E →
      ∃ t, PSs (L2H.cxH CX0 P w K mg base N x (defScope st) f c A out s H E p) (defBody st) t ∧ t { nx := fun _ H' => Q .non H', rt := Q } (L2.start N vs) H) : FnP P w K mg base (k + 1) f fd ps sp := by
  obtain ⟨oc, od, kV, doc, pm, an, c, ct, osl, rfl, lk, code⟩ := F.ex
  refine ⟨len, fun p A out s H args us vs Q E room hot pin e0 bind rel told => ?_⟩
  have old : ∀ b o, base.get? b = some o → s.heap.get? b = some o := fun b o e => (e0.bs b o e).1
  have KX : K.In s.heap := e0.mod.kin.keeps old
  have kinds : ∀ y ∈ ps.zip us, (defScope st).names.lookup y.1 = some .local ∨ ((defScope st).names.lookup y.1 = some .cell ∧ ((cellsFrom (s.heap.objs.size + 1) (defScope st).names []).lookup y.1).isSome = true) := by
    rintro ⟨n, u⟩ hy
    exact (S.par n (List.of_mem_zip hy).1).elim .inl fun q => .inr ⟨q, PySem.W.cellsFrom_some _ _ _ (.inl q)⟩
  refine codeAny_call_function room.depth (KX _ _ lk) rfl S.co S.gen rfl (PySem.W.codeRec_of KX code) (bind _ _ _ _ (wpAny_newFunctionEnv_cells S.kind kinds fun env he s1 x => ?_))
  subst he
  refine ⟨(e0.mod.nolimit.keeps old).keeps x.toInCall.keep, codeAny_func ?_⟩
  obtain ⟨t, run, told'⟩ := body c p A out s H vs Q E hot (room.deeper _) told
  have I := L2H.inv_startH (CX := CX0) (E := E) S pin e0 (len _ _ _ _ _ told) rel x
  refine wpAny_mono (run.run [] s1 (L2.start N vs) H _ I told') (fun fl s' hs => ?_) fun _ _ hs => hs
  cases fl with
  | ret u =>
    obtain ⟨v, σ', H', J, rv, q⟩ := hs
    exact ⟨v, H', J.os, J.bare, J.base, J.hok, rv, q⟩
  | next =>
    obtain ⟨σ', H', J, q⟩ := hs
    exact ⟨V.non, H', J.os, J.bare, J.base, J.hok, rfl, q⟩
  | brk =>
    obtain ⟨_, _, _, q⟩ := hs
    exact q.elim
  | cont =>
    obtain ⟨_, _, _, q⟩ := hs
    exact q.elim
section
variable {X : Cx} {k : Nat} {f : Addr} {fd : FuncData} {ps : List Str} {sp : Addr × Obj → Sp} {x : Str} {e : Expr} {es : List Expr} {t : TA} {q pos : Pos} {p : Addr × Obj}
theorem pe_callP (F : FnP X.prog X.w X.K X.mg X.base k f fd ps sp) (hr : L2H.RoomH k X.A) (hot : L2H.Hot1 X.A p) (hp : p ∈ X.pn) (hg : Gl X x) (hm : X.mg x = some (.ref f)) (hk : PySem.W.keepIn X.K (.ref f) = true) (hb : Binds X.K fd ps []) (ha : PA X (e :: es) t)
    (hd : (x == ("__debug__" : Str)) = false := by decide) (he : starEach (e :: es) X.env = (false, eval e X.env) :: starEach es X.env := by rfl) (hpl : (backTo pos (starEach es X.env)).any (·.1) = false := by rfl) :
    PE X (.Call (.Name x q) (e :: es) [] pos) (tCal (sp p) E0 t) := by
  refine ⟨fun pins s σ H Q I told => wpAny_Call_Name_kw (ld_glob I hg hm ?_ hd)⟩
  refine PySem.W.callWith_K (h₀ := X.base) I.ok.mod.kin hk (thn (ha.run pos pins s σ H _ I told) fun us s1 hh => ?_) he hpl
  obtain ⟨vs, H1, I1, rel, told1⟩ := hh
  refine ⟨I1.kIn, ?_⟩
  have bind := hb s1 us I1.kIn (by rw [List.append_nil, ← rel.length]; exact F.len _ _ _ _ _ told1)
  rw [List.append_nil] at bind
  obtain ⟨a1, a2, a3, a4, a5⟩ := I1.pin p (List.mem_append_left _ hp)
  have pin : L2H.PinOk X.stack H1 s1 p := ⟨a1, a2, fun z => (List.mem_cons.mp (I1.stkSub p.1 z)).elim a3 a4, a5⟩
  refine wpAny_call (codeAny_mono (F.run p X.A X.stack s1 H1 ⟨us, []⟩ us vs Q E0 hr hot pin I1.env0 bind rel told1) fun r s' hq => ?_)
  cases r with
  | error e => exact (show False from hq).elim
  | ok fl =>
    cases fl with
    | ret u => exact I1.after hq
    | next => exact False.elim hq
    | brk => exact False.elim hq
    | cont => exact False.elim hq
end
end FC
set_option Elab.async false
set_option linter.all false
set_option maxRecDepth 100000
set_option maxHeartbeats 4000000
namespace FC
open PySem L2
def termNames : List Str := ["InvalidChain", "InvalidRow", "InvalidNumber", "InvalidText", "TooMany", "NothingToUndo"]
/-- the six classes stand at c0 .. c5 -/
structure SixT (mg : Str → Option Value) (c0 c1 c2 c3 c4 c5 : Addr) : Prop where
  g0 : mg "InvalidChain" = some (.ref c0)
  g1 : mg "InvalidRow" = some (.ref c1)
  g2 : mg "InvalidNumber" = some (.ref c2)
  g3 : mg "InvalidText" = some (.ref c3)
  g4 : mg "TooMany" = some (.ref c4)
  g5 : mg "NothingToUndo" = some (.ref c5)
/-- D is the i-th of them -/
structure OneT (K : PySem.W.Frag) (D : Addr) (i : Nat) (c0 c1 c2 c3 c4 c5 : Addr) : Prop where
  lt : i < 6
  ex : ExcC K D
  k0 : PySem.W.kitOne K (.ref D) (.ref c0) = some (decide (0 = i))
  k1 : PySem.W.kitOne K (.ref D) (.ref c1) = some (decide (1 = i))
  k2 : PySem.W.kitOne K (.ref D) (.ref c2) = some (decide (2 = i))
  k3 : PySem.W.kitOne K (.ref D) (.ref c3) = some (decide (3 = i))
  k4 : PySem.W.kitOne K (.ref D) (.ref c4) = some (decide (4 = i))
  k5 : PySem.W.kitOne K (.ref D) (.ref c5) = some (decide (5 = i))
  kv : PySem.W.kitOne K (.ref D) (.type "ValueError") = some true
def spTerm (K : PySem.W.Frag) (c0 c1 c2 c3 c4 c5 : Addr) : Addr × Obj → Sp := fun p vs H Q _ => ∃ (D : Addr) (i : Nat) (z : Str), vs = [.ref p.1] ∧ Zc (.ref D) none p.2 ∧ (∃ us, p.2.data = .fields us) ∧ OneT K D i c0 c1 c2 c3 c4 c5 ∧ termNames[i]? = some z ∧
  ∀ t H', Same H H' → H' t = some (.tup [.str "error", .str z]) → Q (.ref t) H'
end FC
set_option Elab.async false
set_option linter.all false
set_option maxRecDepth 100000
set_option maxHeartbeats 1000000
/-! _law_told(lambda: ..): the lambda's exceptions bear no context. -/
namespace FC
open PySem PySem.Spec PyProof.Rows L2
/-- another wish of what leaves the code -/
theorem inv_xe {X : Cx} {pins : List (Addr × Obj)} {σ : L2.St} {H : Hp} {s : Shared} {xe : Value → Shared → Prop} (I : Inv X pins σ H s) : Inv { X with xe := xe } pins σ H s :=
  ⟨⟨I.ok.mod, I.ok.kind, I.ok.glob, I.ok.blt, I.ok.above, I.ok.inj, I.ok.has, I.ok.cab, I.ok.hd, I.ok.frames, I.ok.stk, I.ok.exf, I.ok.bs, I.ok.bsz, I.ok.noex, I.ok.exfs, I.ok.funs, I.ok.frf⟩,
    I.os, I.bare, I.base, I.loc, I.cell, I.free, I.freeC, I.pin, I.hok, I.len⟩
/-- the lambda's body, entered at s from the frames out -/
def lamN (X : Cx) (A : Around) (out : List Env) (s : Shared) (H : Hp) (E : XK) (scope : Scope) (f c : Addr) : Cx :=
  { LamX.lamCx X A out s H E scope f c with
    xe := fun e s1 => wpAny (model X.prog X.w) (A.deeper (LamX.lamEnv X scope s.heap.objs.size f c)) (leaving (LamX.lamEnv X scope s.heap.objs.size f c) e) (fun _ s2 => L2N.CX X.prog X.w out H s E e s2) (fun e2 s2 => L2N.CX X.prog X.w out H s E e2 s2) s1 }
section
variable {X : Cx} {pins : List (Addr × Obj)} {σ : L2.St} {H : Hp} {s : Shared}
/-- the lambda at f is called while the frame env runs above X's -/
theorem lam_run {env : Env} {A : Around} {f c : Addr} {pm ctv : Value} {params : Arguments} {body : Expr} {scope : Scope} {k : Nat} {E : XK} {tb : TE} {s1 : Shared} {HZ : Hp} {Q : VK} (I : Inv X pins σ H s) (L : LamX.LamS X.env.scope scope)
    (here : s1.heap.get? f = some (PySem.W.kla_obj "<lambda>" (X.env.qual ++ "<lambda>") params body scope (cloFrom X.env.cells scope.names []) pm c ctv))
    (bind : bindArgs (PySem.W.kla_fn "<lambda>" (X.env.qual ++ "<lambda>") params body scope (cloFrom X.env.cells scope.names []) pm (.ref c) ctv) ⟨[], []⟩ = pure []) (e1 : Env0 X.prog X.w X.K X.mg X.base A (env :: X.stack) s1 HZ) (lim : s1.heap.NoLimit)
    (un : Un (frs X.stack) [] H HZ s.heap s1.heap) (hr : Room (k + 1) A) (hc : HZ c = some (LamX.CodeO c (X.env.qual ++ "<lambda>")))
    (hbody : ∀ (A : Around) (out : List Env) (s : Shared) (H : Hp), Room k (A.deeper (LamX.lamEnv X scope s.heap.objs.size f c)) → PE (lamN X A out s H E scope f c) body tb) (told : tb σ HZ Q) :
    codeAny (model X.prog X.w) A (.call (.ref f) ⟨[], []⟩) (CR (L2N.CX X.prog X.w) (env :: X.stack) X.prog X.w HZ s1 Q E) s1 := by
  obtain ⟨⟨oc, vs, t, o1, o2, o3⟩, _, _⟩ := e1.hok c _ hc
  refine PySem.W.kla_callFunE hr.depth here rfl L.co L.gen rfl ⟨c, oc, vs, t, rfl, o1, o2, o3⟩ ?_
  rw [bind]
  refine wpAny_pure (wpAny_newFunctionEnv (fun y hy => (L.own y hy).2) (fun y hy => absurd hy (by simp)) (fun h1 ns ext => ⟨lim.fresh _ ext, ?_⟩) L.kind)
  have kp : ∀ b o, s1.heap.get? b = some o → h1.get? b = some o := fun b o e => ext.extBut b o (Nat.ne_of_lt (Heap.lt_size e)) (Heap.get?_push_of_some _ e)
  have J := inv_xe (xe := (lamN X A (env :: X.stack) s1 HZ E scope f c).xe) (LamX.lam_start2 (tk := s1.toks + ([] : List (Str × Value)).length) (E := E) (f := f) (c' := c) I L e1 hr.hd un ns kp)
  refine PySem.W.kla_codeExpr (wpAny_mono ((hbody A (env :: X.stack) s1 HZ (hr.deeper _)).run [] _ _ HZ Q J told) (fun v s2 hq => ?_) fun _ _ hq => hq)
  obtain ⟨u, H', J', rv, q⟩ := hq
  exact ⟨u, H', J'.os, J'.bare, J'.base, J'.hok, rv, q⟩
end
theorem takes0N {X : Cx} : L2N.Takes X (fun _ _ _ _ => False) := fun _ _ h => by
  obtain ⟨_, _, _, _, _, _, _, _, _, _, _, _, _, _, _, _, z⟩ := h
  exact z.elim
end FC
set_option Elab.async false
set_option linter.all false
set_option maxRecDepth 100000
set_option maxHeartbeats 1000000
namespace FC
open PySem PySem.Spec PyProof.Rows L2
/-! ### data of chains, for == -/
def vData : V → PyData
  | .str z => .str z
  | .int i => .int i
  | _ => .none
def stepData (ys : List V) : PyData := .tuple (ys.map vData)
def chainData (cs : List (List V)) : PyData := .tuple (cs.map stepData)
theorem dp_flat {K : PySem.W.Frag} {H : Hp} : ∀ {ys : List V}, (∀ y ∈ ys, strInt y = true) → DpAll K H ys (ys.map vData)
  | [], _ => .nil
  | y :: r, h => by
    have h1 := h y (by simp)
    refine .cons ?_ (dp_flat fun z hz => h z (List.mem_cons_of_mem _ hz))
    cases y <;> first | exact .str _ | exact .int _ | cases h1
theorem dp_steps {K : PySem.W.Frag} {H : Hp} : ∀ {xs : List V} {cs : List (List V)}, xs.length = cs.length → (∀ (i : Nat) (x : V) (ys : List V), xs[i]? = some x → cs[i]? = some ys → Dp K H x (stepData ys)) → DpAll K H xs (cs.map stepData)
  | [], [], _, _ => .nil
  | x :: r, ys :: s, hl, h => .cons (h 0 x ys rfl rfl) (dp_steps (by simpa using hl) fun i x ys h1 h2 => h (i + 1) x ys (by simpa using h1) (by simpa using h2))
  | [], _ :: _, hl, _ => by simp at hl
  | _ :: _, [], hl, _ => by simp at hl
theorem chain_dp {K : PySem.W.Frag} {H : Hp} {a : Addr} {cs : List (List V)} (h : ChainAt K H a cs) (hc : chainOk cs = true) : Dp K H (.ref a) (chainData cs) := by
  obtain ⟨xs, h1, h2⟩ := h
  refine .tup h1 (dp_steps (by rw [h2.len, List.length_map]) fun i x ys hx hy => ?_)
  obtain ⟨b, rfl, hb, _⟩ := h2.at_ i x (some ys) hx (by rw [List.getElem?_map, hy]; rfl)
  exact .tup hb (dp_flat (stepOk_strInt (chainOk_steps hc ys (List.mem_of_getElem? hy))))
theorem lay_all : ∀ {ds : List PyData}, (∀ d ∈ ds, d.canLay0 = true) → PyData.canLayAll0 ds = true
  | [], _ => rfl
  | d :: r, h => by
    show (d.canLay0 && PyData.canLayAll0 r) = true
    rw [h d (by simp), lay_all fun z hz => h z (List.mem_cons_of_mem _ hz)]
    rfl
theorem depth_all {n : Nat} : ∀ {ds : List PyData}, (∀ d ∈ ds, d.depth ≤ n) → PyData.depthAll ds ≤ n
  | [], _ => Nat.zero_le _
  | d :: r, h => by
    show max d.depth (PyData.depthAll r) ≤ n
    have h1 := h d (by simp)
    have h2 := depth_all (n := n) fun z hz => h z (List.mem_cons_of_mem _ hz)
    omega
theorem step_shaped {ys : List V} (h : stepOk ys = true) : (stepData ys).canLay0 = true ∧ (stepData ys).depth ≤ 1 := by
  obtain ⟨name, ns, rfl, hn, _⟩ := stepOk_shape h
  have hk : PyData.strOk name = true := by
    have all : ∀ x ∈ names, PyData.strOk x = true := by decide +kernel
    exact all _ hn
  constructor
  · refine lay_all fun d hd => ?_
    obtain ⟨v, hv, rfl⟩ := List.mem_map.mp hd
    rcases List.mem_cons.mp hv with z | z
    · rw [z]
      exact hk
    · obtain ⟨n, _, rfl⟩ := List.mem_map.mp z
      rfl
  · show PyData.depthAll _ + 1 ≤ 1
    have := depth_all (n := 0) (ds := (V.str name :: ns.map V.int).map vData) fun d hd => by
      obtain ⟨v, hv, rfl⟩ := List.mem_map.mp hd
      rcases List.mem_cons.mp hv with z | z
      · rw [z]
        exact Nat.le_refl _
      · obtain ⟨n, _, rfl⟩ := List.mem_map.mp z
        exact Nat.le_refl _
    omega
theorem chain_shaped {cs : List (List V)} (h : chainOk cs = true) : SeqAt.shaped (chainData cs) = true := by
  have hs := chainOk_steps h
  show (PyData.canLayAll0 (cs.map stepData) && decide (PyData.depthAll (cs.map stepData) + 1 ≤ 64)) = true
  rw [lay_all fun d hd => by
    obtain ⟨ys, hy, rfl⟩ := List.mem_map.mp hd
    exact (step_shaped (hs ys hy)).1]
  have := depth_all (n := 1) (ds := cs.map stepData) fun d hd => by
    obtain ⟨ys, hy, rfl⟩ := List.mem_map.mp hd
    exact (step_shaped (hs ys hy)).2
  rw [decide_eq_true (by omega)]
  rfl
def errData (z : Str) : PyData := .tuple [.str "error", .str z]
theorem err_shaped : SeqAt.shaped (errData "InvalidText") = true := by decide +kernel
theorem err_dp {K : PySem.W.Frag} {H : Hp} {t : Addr} {z : Str} (h : H t = some (.tup [.str "error", .str z])) : Dp K H (.ref t) (errData z) := .tup (SqT.of h) (.cons (.str _) (.cons (.str _) .nil))
theorem chain_not_err {cs : List (List V)} (z : Str) : PyData.eqv (chainData cs) (errData z) = false := by
  match cs with
  | [] => rfl
  | [] :: r => rfl
  | (y :: s) :: r => rfl
end FC
set_option Elab.async false
set_option linter.all false
set_option maxRecDepth 100000
set_option maxHeartbeats 4000000
/-! Feeds: what stands of one in the heap; its methods. -/
namespace FC
open PySem PySem.Spec PyProof.Rows L2
abbrev fdM (i : Nat) : Stmt := inClass sFeed i
/-- the fields of a feed -/
structure FC5 where
  c : Addr
  n : Addr
  an : Addr
  st : Addr
  un : Addr
def FC5.fs (F : FC5) : List (Str × V) := [("chain", .ref F.c), ("numbers", .ref F.n), ("answers", .ref F.an), ("states", .ref F.st), ("undone", .ref F.un)]
theorem FC5.chain (F : FC5) : F.fs.lookup ("chain" : Str) = some (.ref F.c) := rfl
theorem FC5.numbers (F : FC5) : F.fs.lookup ("numbers" : Str) = some (.ref F.n) := rfl
theorem FC5.answers (F : FC5) : F.fs.lookup ("answers" : Str) = some (.ref F.an) := rfl
theorem FC5.states (F : FC5) : F.fs.lookup ("states" : Str) = some (.ref F.st) := rfl
theorem FC5.undone (F : FC5) : F.fs.lookup ("undone" : Str) = some (.ref F.un) := rfl
theorem FC5.put (F : FC5) (u : Addr) : putF "undone" (.ref u) F.fs = FC5.fs { F with un := u } := rfl
theorem fs_init (F : FC5) : putF "undone" (.ref F.un) (putF "states" (.ref F.st) (putF "answers" (.ref F.an) (putF "numbers" (.ref F.n) (putF "chain" (.ref F.c) [])))) = F.fs := rfl
def FC5.cells (F : FC5) (a : Addr) : List Addr := [a, F.n, F.an, F.st, F.un]
/-- tuples of these numbers -/
def SqTs (K : PySem.W.Frag) (H : Hp) (qs : List Addr) (gs : List (List Int)) : Prop := qs.length = gs.length ∧ ∀ (i : Nat) (q : Addr) (g : List Int), qs[i]? = some q → gs[i]? = some g → SqT K H q (g.map V.int)
/-- at a stands a feed of these steps, numbers, and numbers taken back -/
structure FeedS (K : PySem.W.Frag) (C : Addr) (H : Hp) (a : Addr) (F : FC5) (ps : List Stp) (row und : List Int) : Prop where
  ins : ∃ dx, H a = some (.ins C dx F.fs)
  chain : StpsAt K H F.c ps
  numbers : H F.n = some (.lst (row.map V.int))
  answers : ∃ qs : List Addr, H F.an = some (.lst (qs.map V.ref)) ∧ SqTs K H qs (givenB ps row)
  states : ∃ ss : List Addr, H F.st = some (.lst (ss.map V.ref)) ∧ ss.length = row.length ∧ ∀ (i : Nat) (s : Addr), ss[i]? = some s → StateAt K H s ps (row.take (i + 1))
  undone : H F.un = some (.lst (und.map V.int))
  a1 : F.n ≠ F.an
  a2 : F.n ≠ F.st
  a3 : F.n ≠ F.un
  a4 : F.an ≠ F.st
  a5 : F.an ≠ F.un
  a6 : F.st ≠ F.un
theorem FeedS.same {K : PySem.W.Frag} {C a : Addr} {H H' : Hp} {F : FC5} {ps : List Stp} {row und : List Int} (f : FeedS K C H a F ps row und) (s : Same H H') : FeedS K C H' a F ps row und := by
  obtain ⟨⟨dx, h1⟩, h2, h3, ⟨qs, h4, h5⟩, ⟨ss, h6, h7, h8⟩, h9, a1, a2, a3, a4, a5, a6⟩ := f
  exact ⟨⟨dx, s _ _ h1⟩, stps_same h2 s, s _ _ h3, ⟨qs, s _ _ h4, h5.1, fun i q g hq hg => sqt_same s (h5.2 i q g hq hg)⟩, ⟨ss, s _ _ h6, h7, fun i q hq => (h8 i q hq).same s⟩, s _ _ h9, a1, a2, a3, a4, a5, a6⟩
/-- all but the places of L is as it was -/
def Frm (L : List Addr) (H H' : Hp) : Prop := ∀ b o, H b = some o → b ∉ L → H' b = some o
theorem Frm.refl (L : List Addr) (H : Hp) : Frm L H H := fun _ _ h _ => h
theorem Frm.same {L : List Addr} {H H' : Hp} (s : Same H H') : Frm L H H' := fun b o h _ => s b o h
theorem Frm.trans {L : List Addr} {H H1 H2 : Hp} (x : Frm L H H1) (y : Frm L H1 H2) : Frm L H H2 := fun b o h n => y b o (x b o h n) n
theorem Frm.upd {L : List Addr} {H H1 : Hp} {p : Addr} {o : HO} (x : Frm L H H1) (hp : p ∈ L) : Frm L H (upd H1 p o) := fun b ob h n => by
  rw [upd_ne (fun z => n (by rw [z]; exact hp))]
  exact x b ob h n
theorem sqt_frm {K : PySem.W.Frag} {L : List Addr} {H H' : Hp} {a : Addr} {xs : List V} (s : Frm L H H') (hn : ∀ b ∈ L, ∀ ys, H b ≠ some (.tup ys) ∧ ∀ o, H b ≠ some (.frz o (.tup ys))) (h : SqT K H a xs) : SqT K H' a xs := by
  rcases h with (h | ⟨o, h⟩) | h
  · exact .inl (.inl (s _ _ h (fun z => (hn _ z xs).1 h)))
  · exact .inl (.inr ⟨o, s _ _ h (fun z => (hn _ z xs).2 o h)⟩)
  · exact .inr h
/-- a feed's own places hold no tuples -/
theorem FeedS.noT {K : PySem.W.Frag} {C a : Addr} {H : Hp} {F : FC5} {ps : List Stp} {row und : List Int} (f : FeedS K C H a F ps row und) : ∀ b ∈ F.cells a, ∀ ys, H b ≠ some (.tup ys) ∧ ∀ o, H b ≠ some (.frz o (.tup ys)) := fun b hb ys => by
  obtain ⟨⟨dx, h1⟩, _, h3, ⟨qs, h4, _⟩, ⟨ss, h6, _⟩, h9, _⟩ := f
  unfold FC5.cells at hb
  simp only [List.mem_cons, List.mem_nil_iff, or_false] at hb
  rcases hb with rfl | rfl | rfl | rfl | rfl
  · rw [h1]; exact ⟨(by intro z; cases z), fun o => (by intro z; cases z)⟩
  · rw [h3]; exact ⟨(by intro z; cases z), fun o => (by intro z; cases z)⟩
  · rw [h4]; exact ⟨(by intro z; cases z), fun o => (by intro z; cases z)⟩
  · rw [h6]; exact ⟨(by intro z; cases z), fun o => (by intro z; cases z)⟩
  · rw [h9]; exact ⟨(by intro z; cases z), fun o => (by intro z; cases z)⟩
theorem state_frm {K : PySem.W.Frag} {L : List Addr} {H H' : Hp} {a : Addr} {ps : List Stp} {row : List Int} (s : Frm L H H') (hn : ∀ b ∈ L, ∀ ys, H b ≠ some (.tup ys) ∧ ∀ o, H b ≠ some (.frz o (.tup ys))) (h : StateAt K H a ps row) : StateAt K H' a ps row := by
  obtain ⟨xs, h1, h2, h3⟩ := h
  refine ⟨xs, sqt_frm s hn h1, h2, fun i x p hx hp => ?_⟩
  obtain ⟨b, e, hb⟩ := h3 i x p hx hp
  exact ⟨b, e, sqt_frm s hn hb⟩
theorem stps_frm {K : PySem.W.Frag} {L : List Addr} {H H' : Hp} {c : Addr} {ps : List Stp} (s : Frm L H H') (hn : ∀ b ∈ L, ∀ ys, H b ≠ some (.tup ys) ∧ ∀ o, H b ≠ some (.frz o (.tup ys))) (h : StpsAt K H c ps) : StpsAt K H' c ps := by
  obtain ⟨xs, x1, x2, x3⟩ := h
  refine ⟨xs, sqt_frm s hn x1, x2, fun i x p hx hp => ?_⟩
  obtain ⟨b, h1, h2⟩ := x3 i x p hx hp
  exact ⟨b, h1, sqt_frm s hn h2⟩
/-- the class's facts -/
structure FdT (K : PySem.W.Frag) (mg : Str → Option Value) (C : Addr) : Prop where
  cl : Cls K C
  nc : NoAttr K C "chain"
  nn : NoAttr K C "numbers"
  na : NoAttr K C "answers"
  ns : NoAttr K C "states"
  nu : NoAttr K C "undone"
  gC : mg "Feed" = some (.ref C)
theorem get_snoc {α : Type} {l : List α} {x y : α} {i : Nat} (h : (l ++ [x])[i]? = some y) : (i < l.length ∧ l[i]? = some y) ∨ (i = l.length ∧ x = y) := by
  by_cases hi : i < l.length
  · rw [List.getElem?_append_left hi] at h
    exact .inl ⟨hi, h⟩
  · have h2 := get_lt h
    rw [List.length_append, List.length_singleton] at h2
    have e : i = l.length := by omega
    subst e
    rw [List.getElem?_append_right (Nat.le_refl _), Nat.sub_self] at h
    exact .inr ⟨rfl, Option.some.inj h⟩
/-- a number more -/
theorem feed_push {K : PySem.W.Frag} {C a g a' : Addr} {H : Hp} {F : FC5} {ps : List Stp} {row und : List Int} {x : Int} {qs ss : List Addr} (f : FeedS K C H a F ps row und) (hq : H F.an = some (.lst (qs.map V.ref))) (hqa : SqTs K H qs (givenB ps row))
    (hs : H F.st = some (.lst (ss.map V.ref))) (hsl : ss.length = row.length) (hss : ∀ (i : Nat) (s : Addr), ss[i]? = some s → StateAt K H s ps (row.take (i + 1))) (hg : SqT K H g ((newM ps row [x]).map V.int)) (ha : StateAt K H a' ps (row ++ [x])) {H' : Hp}
    (e : H' = upd (upd (upd H F.n (.lst (row.map V.int ++ [.int x]))) F.an (.lst (qs.map V.ref ++ [.ref g]))) F.st (.lst (ss.map V.ref ++ [.ref a']))) :
    FeedS K C H' a F ps (row ++ [x]) und ∧ Frm (F.cells a) H H' ∧ SqT K H' g ((newM ps row [x]).map V.int) := by
  have fr : Frm (F.cells a) H H' := by
    rw [e]
    exact ((((Frm.refl _ H).upd (by simp [FC5.cells])).upd (by simp [FC5.cells])).upd (by simp [FC5.cells]))
  have nt := f.noT
  obtain ⟨dx, hi⟩ := f.ins
  have n1 : a ≠ F.n := ne_of hi f.numbers (by intro z; cases z)
  have n2 : a ≠ F.an := ne_of hi hq (by intro z; cases z)
  have n3 : a ≠ F.st := ne_of hi hs (by intro z; cases z)
  refine ⟨⟨⟨dx, by rw [e, upd_ne n3, upd_ne n2, upd_ne n1]; exact hi⟩, stps_frm fr nt f.chain, ?_, ⟨qs ++ [g], ?_, ?_, ?_⟩, ⟨ss ++ [a'], ?_, ?_, ?_⟩, ?_, f.a1, f.a2, f.a3, f.a4, f.a5, f.a6⟩, fr, sqt_frm fr nt hg⟩
  · rw [e, upd_ne f.a2, upd_ne f.a1, upd_same, List.map_append]
    rfl
  · rw [e, upd_ne f.a4, upd_same, List.map_append]
    rfl
  · rw [given_snoc, List.length_append, List.length_append, hqa.1]
    rfl
  · intro i q gg h1 h2
    rw [given_snoc] at h2
    rcases get_snoc h1 with ⟨l1, h1⟩ | ⟨l1, h3⟩
    · rw [List.getElem?_append_left (by rw [← hqa.1]; exact l1)] at h2
      exact sqt_frm fr nt (hqa.2 i q gg h1 h2)
    · subst l1
      subst h3
      rw [hqa.1, List.getElem?_append_right (Nat.le_refl _), Nat.sub_self] at h2
      have h2 : newM ps row [x] = gg := Option.some.inj h2
      rw [← h2]
      exact sqt_frm fr nt hg
  · rw [e, upd_same, List.map_append]
    rfl
  · rw [List.length_append, List.length_append, hsl]
    rfl
  · intro i s h1
    rcases get_snoc h1 with ⟨l1, h1⟩ | ⟨l1, h3⟩
    · rw [List.take_append_of_le_length (by omega)]
      exact state_frm fr nt (hss i s h1)
    · subst l1
      subst h3
      rw [List.take_of_length_le (by rw [List.length_append, hsl]; exact Nat.le_refl _)]
      exact state_frm fr nt ha
  · rw [e, upd_ne f.a6.symm, upd_ne f.a5.symm, upd_ne f.a3.symm]
    exact f.undone
section
variable {P : Program} {w : World} {K : PySem.W.Frag} {mg : Str → Option Value} {base : Heap}
/-! ### take -/
def spTake (K : PySem.W.Frag) (C : Addr) : Sp := fun vs H Q _ => ∃ (a : Addr) (x : Int) (F : FC5) (ps : List Stp) (row und : List Int), vs = [.ref a, .int x] ∧ FeedS K C H a F ps row und ∧ (∀ p ∈ ps, p.ok) ∧ ps.length ≤ 4 ∧ row.length ≤ 100 ∧
  ∀ (g : Addr) H', FeedS K C H' a F ps (row ++ [x]) und → Frm (F.cells a) H H' → SqT K H' g ((newM ps row [x]).map V.int) → Q (.ref g) H'
theorem scTake : FnScope ["self", "number", "state", "answer", "state_behind"] ["self", "number"] (defScope (fdM 6)) := ⟨rfl, rfl, rfl, by decide +kernel, rfl, by decide +kernel, by decide +kernel⟩
theorem ok_take {f C : Addr} {fd : FuncData} (F : Fun K "take" "Feed.take" (fdM 6) f fd) (T : FdT K mg C) (CS : Cal P w K mg base CX0 1 "start" ["chain"] (spStartP K)) (CA : Cal P w K mg base CX0 3 "advance" ["chain", "state", "number"] (spAdv K)) :
    FnOk P w K mg base CX0 4 f fd ["self", "number"] (spTake K C) := by
  refine F.ok scTake (fun vs H Q E h => ?_) (fun cdv A outer s H vs Q E hr h => ?_)
  · obtain ⟨a, x, F, ps, row, und, rfl, _⟩ := h
    rfl
  · obtain ⟨a, x, F, ps, row, und, rfl, hf, hok, hl, hlr, k⟩ := h
    have nd := scTake.nd
    have hr1 : Room 1 _ := hr.mono (by decide)
    refine ⟨_, pss_cons (ps_set (i := 2) nd rfl (Or.inl rfl) (pe_ifExp (pt_truth (pe_fld (pv 0) rfl) (fun _ => rfl)) (pe_ix ix_list (pe_fld (pv 0) rfl) (pe_un un_neg pe_int) (fun _ _ => rfl)) (pe_cal CS hr1 pass0 (pa_cons (pe_fld (pv 0) rfl) pa_nil))))
      (pss_cons (ps_asg (pe_cal CA hr pass0 (pa_cons (pe_fld (pv 0) rfl) (pa_cons (pv 2) (pa_cons (pv 1) pa_nil)))) (pg_tup rfl (pgs_cons (pg_name (i := 3) nd rfl (Or.inl rfl)) (pgs_cons (pg_name (i := 4) nd rfl (Or.inl rfl)) pgs_nil))))
      (pss_cons (ps_expr (pe_bm PySem.F.plainAttrs_list PySem.F.slot_list_append PySem.F.type_list_append mt_append (pe_fld (pv 0) rfl) (pa_cons (pv 1) pa_nil)))
      (pss_cons (ps_expr (pe_bm PySem.F.plainAttrs_list PySem.F.slot_list_append PySem.F.type_list_append mt_append (pe_fld (pv 0) rfl) (pa_cons (pv 3) pa_nil)))
      (pss_cons (ps_expr (pe_bm PySem.F.plainAttrs_list PySem.F.slot_list_append PySem.F.type_list_append mt_append (pe_fld (pv 0) rfl) (pa_cons (pv 4) pa_nil)))
      (pss_one (ps_ret (pv 3))))))), ?_⟩
    obtain ⟨dx, hi⟩ := hf.ins
    obtain ⟨ss, hst, hsl, hss⟩ := hf.states
    refine ⟨_, rfl, a, C, dx, _, _, rfl, hi, T.cl, T.ns, F.states, _, .inl ⟨_, SqL.of hst, rfl⟩, ?_⟩
    rcases List.eq_nil_or_concat ss with e | ⟨ss0, s0, e⟩
    · subst e
      have er : row = [] := List.eq_nil_of_length_eq_zero hsl.symm
      refine iteF ?_
      refine ⟨_, rfl, a, C, dx, _, _, rfl, hi, T.cl, T.nc, F.chain, F.c, ps, rfl, hf.chain, by omega, fun s0 H1 s01 hs0 => ?_⟩
      have hs0 : StateAt K H1 s0 ps row := by rw [er]; exact hs0
      have f1 := hf.same s01
      obtain ⟨dx1, hi1⟩ := f1.ins
      refine ⟨_, rfl, a, C, dx1, _, _, rfl, hi1, T.cl, T.nc, F.chain, _, rfl, _, rfl, F.c, s0, x, ps, row, rfl, f1.chain, hok, hl, hs0, fun t g a' H2 s2 ht hg ha' => ?_⟩
      have f2 := f1.same s2
      obtain ⟨dx2, hi2⟩ := f2.ins
      obtain ⟨qs, hq, hqa⟩ := f2.answers
      obtain ⟨ss', hs', hsl', hss'⟩ := f2.states
      have hn := f2.numbers
      have n1 : a ≠ F.n := ne_of hi2 hn (by intro z; cases z)
      have n2 : a ≠ F.an := ne_of hi2 hq (by intro z; cases z)
      have hsz : 1000 < sizeLine := by decide
      have hlq : qs.length ≤ 100 := by rw [hqa.1, given_len]; exact hlr
      refine ⟨t, _, rfl, ht, rfl, _, _, rfl, _, _, rfl, rfl, ?_⟩
      refine ⟨_, rfl, a, C, dx2, _, _, rfl, hi2, T.cl, T.nn, F.numbers, .inl ⟨rfl, _, SqL.of hn⟩, _, rfl, F.n, _, _, rfl, rfl, hn, (by rw [List.length_map]; omega), ?_⟩
      refine ⟨_, rfl, a, C, dx2, _, _, rfl, (upd_ne n1).trans hi2, T.cl, T.na, F.answers, .inl ⟨rfl, _, SqL.of ((upd_ne f2.a1.symm).trans hq)⟩, _, rfl, F.an, _, _, rfl, rfl, (upd_ne f2.a1.symm).trans hq, (by rw [List.length_map]; omega), ?_⟩
      refine ⟨_, rfl, a, C, dx2, _, _, rfl, (upd_ne n2).trans ((upd_ne n1).trans hi2), T.cl, T.ns, F.states, .inl ⟨rfl, _, SqL.of ((upd_ne f2.a4.symm).trans ((upd_ne f2.a2.symm).trans hs'))⟩, _, rfl, F.st, _, _, rfl, rfl, (upd_ne f2.a4.symm).trans ((upd_ne f2.a2.symm).trans hs'), (by rw [List.length_map]; omega), ?_⟩
      obtain ⟨p1, p2, p3⟩ := feed_push f2 hq hqa hs' hsl' hss' hg ha' rfl
      exact ⟨_, rfl, k g _ p1 ((Frm.same (Same.trans s01 s2)).trans p2) p3⟩
    · subst e
      refine ite2 (fun _ => ?_) (fun z => absurd (by simp) z)
      refine ⟨_, rfl, a, C, dx, _, _, rfl, hi, T.cl, T.ns, F.states, _, rfl, F.st, _, _, .ref s0, rfl, rfl, SqL.of hst, (by rw [List.concat_eq_append, List.map_append]; exact atI_last _ _), ?_⟩
      have s01 := Same.refl H
      have hs0 : StateAt K H s0 ps row := by
        have := hss ss0.length s0 (by rw [List.concat_eq_append, List.getElem?_append_right (Nat.le_refl _), Nat.sub_self]; rfl)
        rw [List.concat_eq_append, List.length_append, List.length_singleton] at hsl
        rw [List.take_of_length_le (by omega)] at this
        exact this
      have f1 := hf.same s01
      obtain ⟨dx1, hi1⟩ := f1.ins
      refine ⟨_, rfl, a, C, dx1, _, _, rfl, hi1, T.cl, T.nc, F.chain, _, rfl, _, rfl, F.c, s0, x, ps, row, rfl, f1.chain, hok, hl, hs0, fun t g a' H2 s2 ht hg ha' => ?_⟩
      have f2 := f1.same s2
      obtain ⟨dx2, hi2⟩ := f2.ins
      obtain ⟨qs, hq, hqa⟩ := f2.answers
      obtain ⟨ss', hs', hsl', hss'⟩ := f2.states
      have hn := f2.numbers
      have n1 : a ≠ F.n := ne_of hi2 hn (by intro z; cases z)
      have n2 : a ≠ F.an := ne_of hi2 hq (by intro z; cases z)
      have hsz : 1000 < sizeLine := by decide
      have hlq : qs.length ≤ 100 := by rw [hqa.1, given_len]; exact hlr
      refine ⟨t, _, rfl, ht, rfl, _, _, rfl, _, _, rfl, rfl, ?_⟩
      refine ⟨_, rfl, a, C, dx2, _, _, rfl, hi2, T.cl, T.nn, F.numbers, .inl ⟨rfl, _, SqL.of hn⟩, _, rfl, F.n, _, _, rfl, rfl, hn, (by rw [List.length_map]; omega), ?_⟩
      refine ⟨_, rfl, a, C, dx2, _, _, rfl, (upd_ne n1).trans hi2, T.cl, T.na, F.answers, .inl ⟨rfl, _, SqL.of ((upd_ne f2.a1.symm).trans hq)⟩, _, rfl, F.an, _, _, rfl, rfl, (upd_ne f2.a1.symm).trans hq, (by rw [List.length_map]; omega), ?_⟩
      refine ⟨_, rfl, a, C, dx2, _, _, rfl, (upd_ne n2).trans ((upd_ne n1).trans hi2), T.cl, T.ns, F.states, .inl ⟨rfl, _, SqL.of ((upd_ne f2.a4.symm).trans ((upd_ne f2.a2.symm).trans hs'))⟩, _, rfl, F.st, _, _, rfl, rfl, (upd_ne f2.a4.symm).trans ((upd_ne f2.a2.symm).trans hs'), (by rw [List.length_map]; omega), ?_⟩
      obtain ⟨p1, p2, p3⟩ := feed_push f2 hq hqa hs' hsl' hss' hg ha' rfl
      exact ⟨_, rfl, k g _ p1 ((Frm.same (Same.trans s01 s2)).trans p2) p3⟩
end
end FC
set_option Elab.async false
set_option linter.all false
set_option maxRecDepth 100000
set_option maxHeartbeats 4000000
/-! The other methods of a feed. -/
namespace FC
open PySem PySem.Spec PyProof.Rows L2
/-- a method that may let out an exception whose context is None -/
theorem okM {P : Program} {w : World} {K : PySem.W.Frag} {mg : Str → Option Value} {base : Heap} {x q : Str} {st : Stmt} {f : Addr} {fd : FuncData} {N ps : List Str} {k : Nat} {sp : Sp} (F : Fun K x q st f fd) (S : FnScope N ps (defScope st))
    (len : ∀ vs H Q E, sp vs H Q E → vs.length = ps.length)
    (body : ∀ (c : Value) (A : Around) (outer : List Env) (s : Shared) (H : Hp) (vs : List V) (Q : VK) (E : XK), Room k (A.deeper (PyProof.Rows.envOfC q (defScope st) s.heap.objs.size f c)) → sp vs H Q E →
      ∃ t, PSs (cxOf (L2N.CX P w) P w K mg base N q (defScope st) f c A outer s H E) (defBody st) t ∧ t { nx := fun _ H' => Q .non H', rt := Q } (start N vs) H) :
    FnOk P w K mg base (L2N.CX P w) (k + 1) f fd ps sp := by
  obtain ⟨oc, od, kV, doc, pm, an, c, ct, osl, rfl, lk, hcd⟩ := F.ex
  exact fn_of lk hcd S len fun A outer s H vs Q E hr h => body c A outer s H vs Q E hr h
/-- another list for the numbers taken back -/
theorem feed_un {K : PySem.W.Frag} {C a l : Addr} {H : Hp} {F : FC5} {ps : List Stp} {row und : List Int} {dx : Addr} (f : FeedS K C H a F ps row und) (hi : H a = some (.ins C dx F.fs)) (hl : H l = none) {H' : Hp}
    (e : H' = upd (upd H l (.lst [])) a (.ins C dx (FC5.fs { F with un := l }))) : FeedS K C H' a { F with un := l } ps row [] ∧ Frm (F.cells a) H H' := by
  have al : a ≠ l := ne_of_none hi hl
  have fr : Frm [a] H H' := fun b o h n => by
    have n : b ≠ a := fun z => n (by rw [z]; exact List.mem_singleton.mpr rfl)
    rw [e, upd_ne n, upd_ne (ne_of_none h hl)]
    exact h
  have nt : ∀ b ∈ [a], ∀ ys, H b ≠ some (.tup ys) ∧ ∀ o, H b ≠ some (.frz o (.tup ys)) := fun b hb => f.noT b (by rw [List.mem_singleton.mp hb]; simp [FC5.cells])
  have keep : ∀ b o, H b = some o → b ≠ a → H' b = some o := fun b o h n => fr b o h (fun z => n (List.mem_singleton.mp z))
  obtain ⟨qs, hq, hqa⟩ := f.answers
  obtain ⟨ss, hs, hsl, hss⟩ := f.states
  have hn := f.numbers
  refine ⟨⟨⟨dx, by rw [e, upd_same]⟩, stps_frm fr nt f.chain, keep _ _ hn (ne_of hn hi (by intro z; cases z)), ⟨qs, keep _ _ hq (ne_of hq hi (by intro z; cases z)), hqa.1, fun i q g h1 h2 => sqt_frm fr nt (hqa.2 i q g h1 h2)⟩,
    ⟨ss, keep _ _ hs (ne_of hs hi (by intro z; cases z)), hsl, fun i s h => state_frm fr nt (hss i s h)⟩, by rw [e, upd_ne (fun z => al z.symm), upd_same]; rfl, f.a1, f.a2, ne_of_none hn hl, f.a4, ne_of_none hq hl, ne_of_none hs hl⟩, fun b o h n => keep b o h (fun z => n (by rw [z]; simp [FC5.cells]))⟩
section
variable {P : Program} {w : World} {K : PySem.W.Frag} {mg : Str → Option Value} {base : Heap}
/-- what a changed feed may bring -/
def FeedQ (K : PySem.W.Frag) (C : Addr) (H : Hp) (a : Addr) (F : FC5) (ps : List Stp) (row und : List Int) (ans : List Int) (Q : VK) : Prop :=
  ∀ (g : Addr) (H' : Hp) (F' : FC5), FeedS K C H' a F' ps row und → Frm (F.cells a) H H' → (∀ b ∈ F'.cells a, b ∈ F.cells a ∨ H b = none) → F'.c = F.c → SqT K H' g (ans.map V.int) → Q (.ref g) H'
/-! ### put -/
def spPut (K : PySem.W.Frag) (C c2 c4 : Addr) : Sp := fun vs H Q E => ∃ (a : Addr) (y : V) (F : FC5) (ps : List Stp) (row und : List Int), vs = [.ref a, y] ∧ Nice K H y ∧ FeedS K C H a F ps row und ∧ (∀ p ∈ ps, p.ok) ∧ ps.length ≤ 4 ∧ row.length ≤ 100 ∧
  ((rowOkV y = false ∧ ∀ H', Same H H' → E (.ref c2) none H') ∨ (rowOkV y = true ∧ 60 ≤ row.length ∧ ∀ H', Same H H' → E (.ref c4) none H') ∨
   (∃ x, y = .int x ∧ rowOkV y = true ∧ row.length < 60 ∧ FeedQ K C H a F ps (row ++ [x]) [] (newM ps row [x]) Q))
theorem scPut : FnScope ["self", "number"] ["self", "number"] (defScope (fdM 1)) := ⟨rfl, rfl, rfl, by decide +kernel, rfl, by decide +kernel, by decide +kernel⟩
theorem ok_put {f fT C c2 c4 : Addr} {tM : Tok} {fd fdT : FuncData} (F : Fun K "put" "Feed.put" (fdM 1) f fd) (T : FdT K mg C) (B : Blt mg) (CN : Cal P w K mg base CX0 2 "is_number" ["value"] (spIsNumber K)) (mM : mg "MOST_NUMBERS" = some (.int 60 tM))
    (GT : FnOk P w K mg base CX0 4 fT fdT ["self", "number"] (spTake K C)) (bT : Binds K fdT ["self", "number"] []) (mT : Meth K C "take" fT) (X2 : ExcT K mg "InvalidNumber" c2) (X4 : ExcT K mg "TooMany" c4) :
    FnOk P w K mg base (L2N.CX P w) 5 f fd ["self", "number"] (spPut K C c2 c4) := by
  refine okM F scPut (fun vs H Q E h => ?_) (fun cdv A outer s H vs Q E hr h => ?_)
  · obtain ⟨a, y, F, ps, row, und, rfl, _⟩ := h
    rfl
  · obtain ⟨a, y, F, ps, row, und, rfl, hy, hf, hok, hl, hlr, h⟩ := h
    have hr2 : Room 2 _ := hr.mono (by decide)
    refine ⟨_, pss_cons (ps_if (pt_not (pt_val (pe_cal CN hr2 pass0 (pa_cons (pv 1) pa_nil)))) (pss_one (L2N.ps_raise rfl (L2N.takes_of rfl rfl rfl rfl) (L2N.pmk_own PySem.F.excBase_ValueError X2.q X2.gC X2.kC (raises_own X2.bP X2.tP) rfl))) pss_nil)
      (pss_cons (ps_if (pt_cmp (pc_ge (pe_callB call_len_seq (by rfl) B.len PySem.boot_len (pa_cons (pe_fld (pv 0) rfl) pa_nil)) (pe_glob (v := .int 60) rfl mM ⟨_, rfl⟩))) (pss_one (L2N.ps_raise rfl (L2N.takes_of rfl rfl rfl rfl) (L2N.pmk_own PySem.F.excBase_ValueError X4.q X4.gC X4.kC (raises_own X4.bP X4.tP) rfl))) pss_nil)
      (pss_cons (ps_fld (pv 0) (pe_lst pa_nil) rfl)
      (pss_one (ps_ret (pe_meth (pv 0) T.cl mT GT hr bT .nil pass0 (pa_cons (pv 1) pa_nil)))))), ?_⟩
    refine ⟨_, rfl, y, rfl, hy, fun H1 s1 => ⟨_, rfl, ?_⟩⟩
    have f1 := hf.same s1
    obtain ⟨dx, hi⟩ := f1.ins
    rcases h with ⟨hw, k⟩ | ⟨hw, h60, k⟩ | ⟨x, rfl, hw, h60, k⟩
    · rw [hw]
      exact iteT (k H1 s1)
    · rw [hw]
      refine iteF ?_
      refine ⟨_, rfl, a, C, dx, _, _, rfl, hi, T.cl, T.nn, F.numbers, F.n, _, rfl, .inl (SqL.of f1.numbers), _, _, rfl, rfl, _, rfl, ?_⟩
      refine ite2 (fun _ => k H1 s1) (fun z => absurd (decide_eq_true (by rw [List.length_map]; omega)) z)
    · rw [hw]
      refine iteF ?_
      refine ⟨_, rfl, a, C, dx, _, _, rfl, hi, T.cl, T.nn, F.numbers, F.n, _, rfl, .inl (SqL.of f1.numbers), _, _, rfl, rfl, _, rfl, ?_⟩
      refine ite2 (fun z => absurd (of_decide_eq_true z) (by rw [List.length_map]; omega)) (fun _ => ?_)
      refine ⟨Nat.zero_le _, fun l nl => ⟨_, rfl, a, C, dx, _, rfl, (upd_ne (ne_of_none hi nl)).trans hi, T.cl, T.nu, (by show 5 < 1000; decide), ?_⟩⟩
      obtain ⟨f2, fr2⟩ := feed_un f1 hi nl rfl
      rw [FC5.put]
      have hnH : H l = none := by
        cases q : H l with
        | none => rfl
        | some v => rw [s1 _ _ q] at nl; cases nl
      refine ⟨_, rfl, a, dx, _, rfl, upd_same, rfl, _, rfl, a, x, { F with un := l }, ps, row, [], rfl, f2, hok, hl, by omega, fun g H3 f3 fr3 hg => ?_⟩
      refine k g H3 _ f3 (fun b o hb n => fr3 b o (fr2 b o (s1 b o hb) n) fun z => ?_) (fun b hb => ?_) rfl hg
      · simp only [FC5.cells, List.mem_cons, List.mem_nil_iff, or_false] at z n
        rcases z with z | z | z | z | z
        · exact n (.inl z)
        · exact n (.inr (.inl z))
        · exact n (.inr (.inr (.inl z)))
        · exact n (.inr (.inr (.inr (.inl z))))
        · rw [z, hnH] at hb; cases hb
      · simp only [FC5.cells, List.mem_cons, List.mem_nil_iff, or_false] at hb ⊢
        rcases hb with z | z | z | z | z
        · exact .inl (.inl z)
        · exact .inl (.inr (.inl z))
        · exact .inl (.inr (.inr (.inl z)))
        · exact .inl (.inr (.inr (.inr (.inl z))))
        · rw [z]; exact .inr hnH
end
end FC
set_option Elab.async false
set_option linter.all false
set_option maxRecDepth 100000
set_option maxHeartbeats 4000000
/-! A feed is made; two feeds are compared. -/
namespace FC
open PySem PySem.Spec PyProof.Rows L2
/-- a new list is put into a field -/
theorem init_step {C a dx l : Addr} {H0 G : Hp} {fs : List (Str × V)} {z : Str} (fr : Frm [a] H0 G) (hi : G a = some (.ins C dx fs)) (nl : G l = none) {G' : Hp} (e : G' = upd (upd G l (.lst [])) a (.ins C dx (putF z (.ref l) fs))) :
    Frm [a] H0 G' ∧ G' a = some (.ins C dx (putF z (.ref l) fs)) ∧ G' l = some (.lst []) ∧ (∀ b o, G b = some o → b ≠ a → G' b = some o) ∧ a ≠ l := by
  have al : a ≠ l := ne_of_none hi nl
  have keep : ∀ b o, G b = some o → b ≠ a → G' b = some o := fun b o h n => by rw [e, upd_ne n, upd_ne (ne_of_none h nl)]; exact h
  refine ⟨fun b o h n => keep b o (fr b o h n) (fun w => n (by rw [w]; simp)), by rw [e, upd_same], by rw [e, upd_ne (fun w => al w.symm), upd_same], keep, al⟩
section
variable {P : Program} {w : World} {K : PySem.W.Frag} {mg : Str → Option Value} {base : Heap}
def spInitF (K : PySem.W.Frag) (C c0 : Addr) : Sp := fun vs H Q E => ∃ (a dx : Addr) (y : V), vs = [.ref a, y] ∧ H a = some (.ins C dx []) ∧
  ((∃ oo, ChainV K H y oo ∧ chainOkO oo = false ∧ ∀ H', Same H H' → E (.ref c0) none H') ∨
   (∃ (c : Addr) (ps : List Stp), y = .ref c ∧ ChainAt K H c (ps.map Stp.v) ∧ chainOk (ps.map Stp.v) = true ∧ ∀ H' F, FeedS K C H' a F ps [] [] → F.c = c → Frm [a] H H' → (∀ b ∈ F.cells a, b = a ∨ H b = none) → Q .non H'))
theorem scInitF : FnScope ["self", "chain"] ["self", "chain"] (defScope (fdM 0)) := ⟨rfl, rfl, rfl, by decide +kernel, rfl, by decide +kernel, by decide +kernel⟩
theorem ok_initF {f C c0 : Addr} {fd : FuncData} (F : Fun K "__init__" "Feed.__init__" (fdM 0) f fd) (T : FdT K mg C) (CK : Cal P w K mg base (L2N.CX P w) 5 "check_chain" ["value"] (spCheck K c0)) : FnOk P w K mg base (L2N.CX P w) 6 f fd ["self", "chain"] (spInitF K C c0) := by
  refine okM F scInitF (fun vs H Q E h => ?_) (fun cdv A outer s H vs Q E hr h => ?_)
  · obtain ⟨a, dx, y, rfl, _⟩ := h
    rfl
  · obtain ⟨a, dx, y, rfl, hi, h⟩ := h
    refine ⟨_, pss_cons (ps_expr (pe_cal CK hr (L2N.passes_call (W := fun cls d _ H => E cls d H) (L2N.takes_of rfl rfl rfl rfl) (fun _ _ _ _ h => h)) (pa_cons (pv 1) pa_nil)))
      (pss_cons (ps_fld (pv 0) (pv 1) rfl) (pss_cons (ps_fld (pv 0) (pe_lst pa_nil) rfl) (pss_cons (ps_fld (pv 0) (pe_lst pa_nil) rfl) (pss_cons (ps_fld (pv 0) (pe_lst pa_nil) rfl) (pss_one (ps_fld (pv 0) (pe_lst pa_nil) rfl)))))), ?_⟩
    rcases h with ⟨oo, hx, hf, k⟩ | ⟨c, ps, rfl, hca, hcok, k⟩
    · exact ⟨_, rfl, y, oo, rfl, hx, fun H1 s1 => ⟨fun z => (by rw [hf] at z; cases z), fun _ => k H1 s1⟩⟩
    · have e1 : chainOkO (some ((ps.map Stp.v).map some)) = true := (chainOkL_some _).trans hcok
      refine ⟨_, rfl, _, _, rfl, hca.v, fun H1 s1 => ⟨fun _ => ?_, fun z => (by rw [e1] at z; cases z)⟩⟩
      have hi1 := s1 _ _ hi
      refine ⟨_, rfl, _, rfl, a, C, dx, _, rfl, hi1, T.cl, T.nc, (by show 0 < 1000; decide), ?_⟩
      have fr1 : Frm [a] H (upd H1 a (.ins C dx (putF "chain" (.ref c) []))) := (Frm.same s1).upd (by simp)
      have i1 : upd H1 a (.ins C dx (putF "chain" (.ref c) [])) a = some (.ins C dx (putF "chain" (.ref c) [])) := upd_same
      have free1 : ∀ b, upd H1 a (.ins C dx (putF "chain" (.ref c) [])) b = none → H b = none := fun b hb => by
        have n : b ≠ a := fun w => by rw [w, i1] at hb; cases hb
        rw [upd_ne n] at hb
        cases q : H b with
        | none => rfl
        | some v => rw [s1 _ _ q] at hb; cases hb
      generalize upd H1 a (.ins C dx (putF "chain" (.ref c) [])) = G1 at fr1 i1 free1 ⊢
      refine ⟨Nat.zero_le _, fun l1 n1 => ⟨_, rfl, a, C, dx, _, rfl, (upd_ne (ne_of_none i1 n1)).trans i1, T.cl, T.nn, (by show 1 < 1000; decide), ?_⟩⟩
      obtain ⟨fr2, i2, e21, k2, al1⟩ := init_step fr1 i1 n1 (z := "numbers") rfl
      have free2 : ∀ b, upd (upd G1 l1 (.lst [])) a (.ins C dx (putF "numbers" (.ref l1) (putF "chain" (.ref c) []))) b = none → G1 b = none := fun b hb => by
        cases q : G1 b with
        | none => rfl
        | some v =>
          by_cases n : b = a
          · rw [n, i2] at hb; cases hb
          · rw [k2 _ _ q n] at hb; cases hb
      generalize upd (upd G1 l1 (.lst [])) a (.ins C dx (putF "numbers" (.ref l1) (putF "chain" (.ref c) []))) = G2 at fr2 i2 e21 k2 free2 ⊢
      refine ⟨Nat.zero_le _, fun l2 n2 => ⟨_, rfl, a, C, dx, _, rfl, (upd_ne (ne_of_none i2 n2)).trans i2, T.cl, T.na, (by show 2 < 1000; decide), ?_⟩⟩
      obtain ⟨fr3, i3, e32, k3, al2⟩ := init_step fr2 i2 n2 (z := "answers") rfl
      have e31 := k3 _ _ e21 (fun z => al1 z.symm)
      have free3 : ∀ b, upd (upd G2 l2 (.lst [])) a (.ins C dx (putF "answers" (.ref l2) (putF "numbers" (.ref l1) (putF "chain" (.ref c) [])))) b = none → G2 b = none := fun b hb => by
        cases q : G2 b with
        | none => rfl
        | some v =>
          by_cases n : b = a
          · rw [n, i3] at hb; cases hb
          · rw [k3 _ _ q n] at hb; cases hb
      generalize upd (upd G2 l2 (.lst [])) a (.ins C dx (putF "answers" (.ref l2) (putF "numbers" (.ref l1) (putF "chain" (.ref c) [])))) = G3 at fr3 i3 e32 k3 e31 free3 ⊢
      refine ⟨Nat.zero_le _, fun l3 n3 => ⟨_, rfl, a, C, dx, _, rfl, (upd_ne (ne_of_none i3 n3)).trans i3, T.cl, T.ns, (by show 3 < 1000; decide), ?_⟩⟩
      obtain ⟨fr4, i4, e43, k4, al3⟩ := init_step fr3 i3 n3 (z := "states") rfl
      have e41 := k4 _ _ e31 (fun z => al1 z.symm)
      have e42 := k4 _ _ e32 (fun z => al2 z.symm)
      have free4 : ∀ b, upd (upd G3 l3 (.lst [])) a (.ins C dx (putF "states" (.ref l3) (putF "answers" (.ref l2) (putF "numbers" (.ref l1) (putF "chain" (.ref c) []))))) b = none → G3 b = none := fun b hb => by
        cases q : G3 b with
        | none => rfl
        | some v =>
          by_cases n : b = a
          · rw [n, i4] at hb; cases hb
          · rw [k4 _ _ q n] at hb; cases hb
      generalize upd (upd G3 l3 (.lst [])) a (.ins C dx (putF "states" (.ref l3) (putF "answers" (.ref l2) (putF "numbers" (.ref l1) (putF "chain" (.ref c) []))))) = G4 at fr4 i4 e43 k4 e41 e42 free4 ⊢
      refine ⟨Nat.zero_le _, fun l4 n4 => ⟨_, rfl, a, C, dx, _, rfl, (upd_ne (ne_of_none i4 n4)).trans i4, T.cl, T.nu, (by show 4 < 1000; decide), ?_⟩⟩
      obtain ⟨fr5, i5, e54, k5, al4⟩ := init_step fr4 i4 n4 (z := "undone") rfl
      have e51 := k5 _ _ e41 (fun z => al1 z.symm)
      have e52 := k5 _ _ e42 (fun z => al2 z.symm)
      have e53 := k5 _ _ e43 (fun z => al3 z.symm)
      have d12 : l1 ≠ l2 := ne_of_none e21 n2
      have d13 : l1 ≠ l3 := ne_of_none e31 n3
      have d14 : l1 ≠ l4 := ne_of_none e41 n4
      have d23 : l2 ≠ l3 := ne_of_none e32 n3
      have d24 : l2 ≠ l4 := ne_of_none e42 n4
      have d34 : l3 ≠ l4 := ne_of_none e43 n4
      have nt : ∀ b ∈ [a], ∀ ys, H b ≠ some (.tup ys) ∧ ∀ o, H b ≠ some (.frz o (.tup ys)) := fun b hb ys => by
        rw [List.mem_singleton.mp hb, hi]
        exact ⟨(by intro z; cases z), fun o => (by intro z; cases z)⟩
      refine k _ ⟨c, l1, l2, l3, l4⟩ ⟨⟨dx, i5⟩, stps_frm fr5 nt (stps_at hca), e51, ⟨[], e52, ?_, fun i q g h1 _ => by simp at h1⟩, ⟨[], e53, rfl, fun i s h => by simp at h⟩, e54, d12, d13, d14, d23, d24, d34⟩ rfl fr5 (fun b hb => ?_)
      · rw [given_len]
        rfl
      · simp only [FC5.cells, List.mem_cons, List.mem_nil_iff, or_false] at hb
        rcases hb with z | z | z | z | z
        · exact .inl z
        · exact .inr (by rw [z]; exact free1 _ n1)
        · exact .inr (by rw [z]; exact free1 _ (free2 _ n2))
        · exact .inr (by rw [z]; exact free1 _ (free2 _ (free3 _ n3)))
        · exact .inr (by rw [z]; exact free1 _ (free2 _ (free3 _ (free4 _ n4))))
end
/-! ### == -/
def intsD (ns : List Int) : List PyData := ns.map PyData.int
theorem dp_intsD {K : PySem.W.Frag} {H : Hp} : ∀ (ns : List Int), DpAll K H (ns.map V.int) (intsD ns)
  | [] => .nil
  | n :: r => .cons (.int n) (dp_intsD r)
theorem stps_dp {K : PySem.W.Frag} {H : Hp} {c : Addr} {ps : List Stp} (h : StpsAt K H c ps) (hc : chainOk (ps.map Stp.v) = true) : Dp K H (.ref c) (chainData (ps.map Stp.v)) := by
  obtain ⟨xs, x1, x2, x3⟩ := h
  refine .tup x1 (dp_steps (by rw [x2, List.length_map]) fun i x ys hx hy => ?_)
  rw [List.getElem?_map] at hy
  obtain ⟨p, hp, rfl⟩ := Option.map_eq_some_iff.mp hy
  obtain ⟨b, rfl, hb⟩ := x3 i x p hx hp
  exact .tup hb (dp_flat (stepOk_strInt (chainOk_steps hc _ (List.mem_of_getElem? (by rw [List.getElem?_map, hp]; rfl)))))
theorem ints_lay (ns : List Int) : PyData.canLayAll0 (intsD ns) = true := lay_all fun d hd => by
  obtain ⟨i, _, rfl⟩ := List.mem_map.mp hd
  rfl
theorem ints_dep (ns : List Int) : PyData.depthAll (intsD ns) ≤ 0 := depth_all fun d hd => by
  obtain ⟨i, _, rfl⟩ := List.mem_map.mp hd
  exact Nat.le_refl _
theorem lst_shaped (ns : List Int) : SeqAt.shaped (PyData.list (intsD ns)) = true := by
  show (PyData.canLayAll0 (intsD ns) && decide (PyData.depthAll (intsD ns) + 1 ≤ 64)) = true
  have := ints_dep ns
  rw [ints_lay, decide_eq_true (by omega)]
  rfl
theorem tp_shaped (ns : List Int) : SeqAt.shaped (PyData.tuple (intsD ns)) = true := by
  show (PyData.canLayAll0 (intsD ns) && decide (PyData.depthAll (intsD ns) + 1 ≤ 64)) = true
  have := ints_dep ns
  rw [ints_lay, decide_eq_true (by omega)]
  rfl
structure EqF (K : PySem.W.Frag) (C : Addr) : Prop where
  ha : PySem.W.findIn K (.ref C) "__class__" = some (some (.builtin "object.__class__"))
  hn : PySem.W.specialIn K (.builtin "object.__class__") "__get__" = some (some (.builtin "getset_descriptor.__get__"))
  htk : PySem.W.takesIn K (.builtin "object.__class__") = some true
  hm : PySem.W.mroIn K C (.type "object") = some true
  kC : PySem.W.kitOne K (.ref C) (.ref C) = some true
  ki : PySem.W.kitOne K (.type "int") (.ref C) = some false
section
variable {P : Program} {w : World} {K : PySem.W.Frag} {mg : Str → Option Value} {base : Heap}
def spEqF (K : PySem.W.Frag) (C : Addr) : Sp := fun vs H Q _ => ∃ (a : Addr) (y : V) (F : FC5) (ps : List Stp) (row und : List Int), vs = [.ref a, y] ∧ FeedS K C H a F ps row und ∧ chainOk (ps.map Stp.v) = true ∧
  ((∃ i, y = .int i ∧ Q (.bl false) H) ∨ (∃ (b : Addr) (G : FC5) (qs : List Stp) (row2 und2 : List Int), y = .ref b ∧ FeedS K C H b G qs row2 und2 ∧ chainOk (qs.map Stp.v) = true ∧
    Q (.bl (PyData.eqv (chainData (ps.map Stp.v)) (chainData (qs.map Stp.v)) && PyData.eqv (.list (intsD row)) (.list (intsD row2)))) H))
theorem scEqF : FnScope ["self", "other"] ["self", "other"] (defScope (fdM 7)) := ⟨rfl, rfl, rfl, by decide +kernel, rfl, by decide +kernel, by decide +kernel⟩
theorem ok_eqF {f C : Addr} {fd : FuncData} (F : Fun K "__eq__" "Feed.__eq__" (fdM 7) f fd) (T : FdT K mg C) (B : Blt mg) (EF : EqF K C) : FnOk P w K mg base CX0 2 f fd ["self", "other"] (spEqF K C) := by
  refine F.ok scEqF (fun vs H Q E h => ?_) (fun cdv A outer s H vs Q E hr h => ?_)
  · obtain ⟨a, y, F, ps, row, und, rfl, _⟩ := h
    rfl
  · obtain ⟨a, y, F, ps, row, und, rfl, hf, hc, h⟩ := h
    refine ⟨_, pss_one (ps_ret (pe_and (pe_callB call_isi (by rfl) B.isi (by decide +kernel) (pa_cons (pv 1) (pa_cons (pe_glob (v := .ref C) rfl T.gC rfl) pa_nil)))
      (pe_and (pe_cmpR (op_eqD hr.units) (pe_fld (pv 0) rfl) (pe_fld (pv 1) rfl) (nomark _)) (pe_one (pe_cmpR (op_eqD hr.units) (pe_fld (pv 0) rfl) (pe_fld (pv 1) rfl) (nomark _)))))), ?_⟩
    obtain ⟨dx, hi⟩ := hf.ins
    rcases h with ⟨i, rfl, k⟩ | ⟨b, G, qs, row2, und2, rfl, hg, hc2, k⟩
    · exact ⟨_, rfl, _, _, _, _, _, rfl, .own C, .base (.int i), EF.ki, _, rfl, iteF k⟩
    · obtain ⟨dy, hj⟩ := hg.ins
      refine ⟨_, rfl, _, _, _, _, _, rfl, .own C, .base (.ins hj T.cl EF.ha EF.hn EF.htk EF.hm), EF.kC, _, rfl, iteT ?_⟩
      refine ⟨_, rfl, a, C, dx, _, _, rfl, hi, T.cl, T.nc, F.chain, _, rfl, b, C, dy, _, _, rfl, hj, T.cl, T.nc, G.chain, chainData (ps.map Stp.v), chainData (qs.map Stp.v), stps_dp hf.chain hc, stps_dp hg.chain hc2, chain_shaped hc, chain_shaped hc2, _, rfl, ?_⟩
      cases e1 : PyData.eqv (chainData (ps.map Stp.v)) (chainData (qs.map Stp.v)) with
      | false =>
        rw [e1, Bool.false_and] at k
        exact iteF k
      | true =>
        rw [e1, Bool.true_and] at k
        refine iteT ?_
        exact ⟨_, rfl, a, C, dx, _, _, rfl, hi, T.cl, T.nn, F.numbers, _, rfl, b, C, dy, _, _, rfl, hj, T.cl, T.nn, G.numbers, .list (intsD row), .list (intsD row2), .lst (SqL.of hf.numbers) (dp_intsD row), .lst (SqL.of hg.numbers) (dp_intsD row2), lst_shaped row, lst_shaped row2, k⟩
end
end FC
set_option Elab.async false
set_option linter.all false
set_option maxRecDepth 100000
set_option maxHeartbeats 1000000
namespace FC
open PySem PySem.Spec PyProof.Rows L2
/-- all but d and the tables of code objects is as it was -/
def Keep (d : Addr) (H H' : Hp) : Prop := ∀ b o, H b = some o → b ≠ d → (∀ ps, o ≠ .tbl ps) → H' b = some o
theorem Keep.refl (d : Addr) (H : Hp) : Keep d H H := fun _ _ h _ _ => h
theorem Keep.trans {d : Addr} {H H1 H2 : Hp} (a : Keep d H H1) (b : Keep d H1 H2) : Keep d H H2 := fun c o h n m => b c o (a c o h n m) n m
theorem Keep.same {d : Addr} {H H' : Hp} (e : Same H H') : Keep d H H' := fun b o h _ _ => e b o h
theorem Keep.sameX {d : Addr} {H H' : Hp} (e : SameX d H H') : Keep d H H' := fun b o h n _ => e b o h n
theorem Keep.ext {d : Addr} {H H' : Hp} (e : LamX.ExtN H H') : Keep d H H' := fun b o h _ m => e b o h m
theorem sqt_keep {K : PySem.W.Frag} {H H' : Hp} {a d : Addr} {xs : List V} (h : SqT K H a xs) (hd : Dice H d) (s : Keep d H H') : SqT K H' a xs := by
  obtain ⟨x, y, e⟩ := hd
  rcases h with (h | ⟨o, h⟩) | h
  · exact .inl (.inl (s _ _ h (ne_of h e (by intro z; cases z)) (fun ps z => by cases z)))
  · exact .inl (.inr ⟨o, s _ _ h (ne_of h e (by intro z; cases z)) (fun ps z => by cases z)⟩)
  · exact .inr h
theorem chain_keep {K : PySem.W.Frag} {H H' : Hp} {a d : Addr} {cs : List (List V)} (h : ChainAt K H a cs) (hc : chainOk cs = true) (hd : Dice H d) (s : Keep d H H') : ChainAt K H' a cs := by
  obtain ⟨xs, h1, h2⟩ := h
  refine ⟨xs, sqt_keep h1 hd s, h2.len, fun i x o hx ho => ?_⟩
  have hi := get_lt ho
  rw [List.length_map] at hi
  have e : (cs.map some)[i]? = some (some cs[i]) := by rw [List.getElem?_map, List.getElem?_eq_getElem hi]; rfl
  rw [e] at ho
  have ho : some cs[i] = o := Option.some.inj ho
  subst ho
  obtain ⟨b, e1, e2, _⟩ := h2.at_ i x _ hx e
  exact ⟨b, e1, sqt_keep e2 hd s, fun y hy => strInt_nice (stepOk_strInt (chainOk_steps hc _ (List.getElem_mem hi)) y hy)⟩
theorem tabs_sameX {T : List (Addr × Str)} {H H' : Hp} {d : Addr} (h : LamX.Tabs T H) (hd : Dice H d) (s : SameX d H H') : LamX.Tabs T H' := fun p hp => by
  obtain ⟨x, y, e⟩ := hd
  obtain ⟨ps, h1, h2, h3⟩ := h p hp
  refine ⟨ps, s _ _ h1 (ne_of h1 e (by intro z; cases z)), h2, fun pos cv hc => ?_⟩
  obtain ⟨c, e1, e2⟩ := h3 pos cv hc
  exact ⟨c, e1, s _ _ e2 (ne_of e2 e (by unfold LamX.CodeO; intro z; cases z))⟩
/-- what stands through a round of the law: the dice of all rounds at t, one of them d, the lambdas' table -/
structure Rd (T : List (Addr × Str)) (t d : Addr) (ds : List Addr) (H : Hp) : Prop where
  tl : H t = some (.lst (ds.map V.ref))
  all : ∀ c ∈ ds, Dice H c
  me : d ∈ ds
  tb : LamX.Tabs T H
theorem Rd.d {T : List (Addr × Str)} {t d : Addr} {ds : List Addr} {H : Hp} (r : Rd T t d ds H) : Dice H d := r.all d r.me
theorem Rd.step {T : List (Addr × Str)} {t d : Addr} {ds : List Addr} {H H' : Hp} (r : Rd T t d ds H) (k : Keep d H H') (hd : Dice H' d) (tb : LamX.Tabs T H') : Rd T t d ds H' := by
  have td : t ≠ d := fun z => by
    obtain ⟨x, y, e⟩ := r.d
    rw [← z, r.tl] at e
    have e := Option.some.inj e
    injection e with e
    match ds, e with
    | c :: _, e => injection e with e; cases e
  refine ⟨k _ _ r.tl td (fun ps z => by cases z), fun c hc => ?_, r.me, tb⟩
  by_cases h : c = d
  · rw [h]
    exact hd
  · obtain ⟨x, y, e⟩ := r.all c hc
    exact ⟨x, y, k _ _ e h (fun ps z => by cases z)⟩
theorem Rd.same {T : List (Addr × Str)} {t d : Addr} {ds : List Addr} {H H' : Hp} (r : Rd T t d ds H) (s : Same H H') : Rd T t d ds H' := r.step (Keep.same s) (r.d.same s) (r.tb.ext s)
theorem Rd.roll {T : List (Addr × Str)} {t d : Addr} {ds : List Addr} {H H' : Hp} (r : Rd T t d ds H) (s : SameX d H H') (hd : Dice H' d) : Rd T t d ds H' := r.step (Keep.sameX s) hd (tabs_sameX r.tb r.d s)
theorem Rd.ext {T : List (Addr × Str)} {t d : Addr} {ds : List Addr} {H H' : Hp} (r : Rd T t d ds H) (s : LamX.ExtN H H') (tb : LamX.Tabs T H') : Rd T t d ds H' := by
  obtain ⟨x, y, e⟩ := r.d
  exact r.step (Keep.ext s) ⟨x, y, s _ _ e (fun ps z => by cases z)⟩ tb
/-- what stands through the law: the dice of all rounds at t, the lambdas' table -/
structure Rt (T : List (Addr × Str)) (t : Addr) (ds : List Addr) (H : Hp) : Prop where
  tl : H t = some (.lst (ds.map V.ref))
  all : ∀ c ∈ ds, Dice H c
  tb : LamX.Tabs T H
theorem Rt.rd {T : List (Addr × Str)} {t d : Addr} {ds : List Addr} {H : Hp} (r : Rt T t ds H) (h : d ∈ ds) : Rd T t d ds H := ⟨r.tl, r.all, h, r.tb⟩
theorem Rd.rt {T : List (Addr × Str)} {t d : Addr} {ds : List Addr} {H : Hp} (r : Rd T t d ds H) : Rt T t ds H := ⟨r.tl, r.all, r.tb⟩
theorem ifNe {x y : V} {A B : Prop} (h : x = y) (hb : B) : if (!decide (x = y)) = true then A else B := by
  rw [decide_eq_true h, if_neg (by decide)]
  exact hb
theorem ifEqvT {x y : PyData} {A B : Prop} (h : PyData.eqv x y = true) (hb : B) : if (!PyData.eqv x y) = true then A else B := by
  rw [h, if_neg (by decide)]
  exact hb
theorem ifEqvF {x y : PyData} {A B : Prop} (h : PyData.eqv x y = false) (hb : A) : if (!PyData.eqv x y) = true then A else B := by
  rw [h, if_pos (by decide)]
  exact hb
theorem ifNot {c : Bool} {A B : Prop} (h : c = true) (hb : B) : if (!c) = true then A else B := by
  rw [h, if_neg (by decide)]
  exact hb
end FC
set_option Elab.async false
set_option linter.all false
set_option maxRecDepth 100000
set_option maxHeartbeats 1000000
/-! What stands while some places change. -/
namespace FC
open PySem PySem.Spec PyProof.Rows L2
/-- all but the places of L and the tables of code objects is as it was -/
def Kp (L : List Addr) (H H' : Hp) : Prop := ∀ b o, H b = some o → b ∉ L → (∀ ps, o ≠ .tbl ps) → H' b = some o
theorem Kp.refl (L : List Addr) (H : Hp) : Kp L H H := fun _ _ h _ _ => h
theorem Kp.trans {L : List Addr} {H H1 H2 : Hp} (x : Kp L H H1) (y : Kp L H1 H2) : Kp L H H2 := fun b o h n m => y b o (x b o h n m) n m
theorem Kp.same {L : List Addr} {H H' : Hp} (s : Same H H') : Kp L H H' := fun b o h _ _ => s b o h
theorem Kp.frm {L : List Addr} {H H' : Hp} (s : Frm L H H') : Kp L H H' := fun b o h n _ => s b o h n
theorem Kp.ext {L : List Addr} {H H' : Hp} (s : LamX.ExtN H H') : Kp L H H' := fun b o h _ m => s b o h m
theorem Kp.sameX {d : Addr} {H H' : Hp} (s : SameX d H H') : Kp [d] H H' := fun b o h n _ => s b o h (fun z => n (by rw [z]; simp))
theorem Kp.mono {L M : List Addr} {H H' : Hp} (s : Kp L H H') (h : ∀ b ∈ L, b ∈ M) : Kp M H H' := fun b o hb n m => s b o hb (fun z => n (h b z)) m
/-- lists and instances stand there -/
def Plain (L : List Addr) (H : Hp) : Prop := ∀ b ∈ L, (∃ C dx fs, H b = some (.ins C dx fs)) ∨ ∃ xs, H b = some (.lst xs)
def NoT (L : List Addr) (H : Hp) : Prop := ∀ b ∈ L, ∀ ys, H b ≠ some (.tup ys) ∧ ∀ o, H b ≠ some (.frz o (.tup ys))
theorem Plain.noT {L : List Addr} {H : Hp} (p : Plain L H) : NoT L H := fun b hb ys => by
  rcases p b hb with ⟨C, dx, fs, e⟩ | ⟨xs, e⟩ <;> rw [e] <;> exact ⟨(by intro z; cases z), fun o => (by intro z; cases z)⟩
theorem Plain.app {L M : List Addr} {H : Hp} (p : Plain L H) (q : Plain M H) : Plain (L ++ M) H := fun b hb => (List.mem_append.mp hb).elim (p b) (q b)
theorem Plain.dice {d : Addr} {H : Hp} (h : Dice H d) : Plain [d] H := fun b hb => by
  obtain ⟨x, y, e⟩ := h
  exact .inr ⟨_, by rw [List.mem_singleton.mp hb]; exact e⟩
theorem Plain.lst {d : Addr} {H : Hp} {xs : List V} (h : H d = some (.lst xs)) : Plain [d] H := fun b hb => .inr ⟨xs, by rw [List.mem_singleton.mp hb]; exact h⟩
theorem FeedS.plain {K : PySem.W.Frag} {C a : Addr} {H : Hp} {F : FC5} {ps : List Stp} {row und : List Int} (f : FeedS K C H a F ps row und) : Plain (F.cells a) H := fun b hb => by
  obtain ⟨⟨dx, h1⟩, _, h3, ⟨qs, h4, _⟩, ⟨ss, h6, _⟩, h9, _⟩ := f
  unfold FC5.cells at hb
  simp only [List.mem_cons, List.mem_nil_iff, or_false] at hb
  rcases hb with rfl | rfl | rfl | rfl | rfl
  · exact .inl ⟨_, _, _, h1⟩
  · exact .inr ⟨_, h3⟩
  · exact .inr ⟨_, h4⟩
  · exact .inr ⟨_, h6⟩
  · exact .inr ⟨_, h9⟩
section
variable {K : PySem.W.Frag} {L : List Addr} {H H' : Hp}
theorem sqt_kp {a : Addr} {xs : List V} (s : Kp L H H') (n : Plain L H) (h : SqT K H a xs) : SqT K H' a xs := by
  rcases h with (h | ⟨o, h⟩) | h
  · exact .inl (.inl (s _ _ h (fun z => (n.noT _ z xs).1 h) (fun ps z => by cases z)))
  · exact .inl (.inr ⟨o, s _ _ h (fun z => (n.noT _ z xs).2 o h) (fun ps z => by cases z)⟩)
  · exact .inr h
theorem tup_kp {a : Addr} {xs : List V} (s : Kp L H H') (n : Plain L H) (h : H a = some (.tup xs)) : H' a = some (.tup xs) := s _ _ h (fun z => (n.noT _ z xs).1 h) (fun ps z => by cases z)
theorem stps_kp {c : Addr} {ps : List Stp} (s : Kp L H H') (n : Plain L H) (h : StpsAt K H c ps) : StpsAt K H' c ps := by
  obtain ⟨xs, x1, x2, x3⟩ := h
  refine ⟨xs, sqt_kp s n x1, x2, fun i x p hx hp => ?_⟩
  obtain ⟨b, h1, h2⟩ := x3 i x p hx hp
  exact ⟨b, h1, sqt_kp s n h2⟩
theorem state_kp {a : Addr} {ps : List Stp} {row : List Int} (s : Kp L H H') (n : Plain L H) (h : StateAt K H a ps row) : StateAt K H' a ps row := by
  obtain ⟨xs, h1, h2, h3⟩ := h
  refine ⟨xs, sqt_kp s n h1, h2, fun i x p hx hp => ?_⟩
  obtain ⟨b, e, hb⟩ := h3 i x p hx hp
  exact ⟨b, e, sqt_kp s n hb⟩
theorem chain_kp {a : Addr} {cs : List (List V)} (s : Kp L H H') (n : Plain L H) (hc : chainOk cs = true) (h : ChainAt K H a cs) : ChainAt K H' a cs := by
  obtain ⟨xs, h1, h2⟩ := h
  refine ⟨xs, sqt_kp s n h1, h2.len, fun i x o hx ho => ?_⟩
  have hi := get_lt ho
  rw [List.length_map] at hi
  have e : (cs.map some)[i]? = some (some cs[i]) := by rw [List.getElem?_map, List.getElem?_eq_getElem hi]; rfl
  rw [e] at ho
  have ho : some cs[i] = o := Option.some.inj ho
  subst ho
  obtain ⟨b, e1, e2, _⟩ := h2.at_ i x _ hx e
  exact ⟨b, e1, sqt_kp s n e2, fun y hy => strInt_nice (stepOk_strInt (chainOk_steps hc _ (List.getElem_mem hi)) y hy)⟩
theorem FeedS.kp {C a : Addr} {F : FC5} {ps : List Stp} {row und : List Int} (s : Kp L H H') (n : Plain L H) (hL : ∀ b ∈ L, b ∉ F.cells a) (f : FeedS K C H a F ps row und) : FeedS K C H' a F ps row und := by
  obtain ⟨⟨dx, h1⟩, h2, h3, ⟨qs, h4, h5⟩, ⟨ss, h6, h7, h8⟩, h9, a1, a2, a3, a4, a5, a6⟩ := f
  have kp : ∀ b o, b ∈ F.cells a → H b = some o → (∀ ps, o ≠ .tbl ps) → H' b = some o := fun b o hb h m => s b o h (fun z => hL b z hb) m
  exact ⟨⟨dx, kp _ _ (by simp [FC5.cells]) h1 (fun ps z => by cases z)⟩, stps_kp s n h2, kp _ _ (by simp [FC5.cells]) h3 (fun ps z => by cases z), ⟨qs, kp _ _ (by simp [FC5.cells]) h4 (fun ps z => by cases z), h5.1, fun i q g hq hg => sqt_kp s n (h5.2 i q g hq hg)⟩,
    ⟨ss, kp _ _ (by simp [FC5.cells]) h6 (fun ps z => by cases z), h7, fun i q hq => state_kp s n (h8 i q hq)⟩, kp _ _ (by simp [FC5.cells]) h9 (fun ps z => by cases z), a1, a2, a3, a4, a5, a6⟩
theorem tabs_frm {T : List (Addr × Str)} (t : LamX.Tabs T H) (s : Frm L H H') (n : Plain L H) : LamX.Tabs T H' := fun p hp => by
  obtain ⟨ps, h1, h2, h3⟩ := t p hp
  have no : ∀ b o, H b = some o → (∀ C dx fs, o ≠ .ins C dx fs) → (∀ xs, o ≠ .lst xs) → b ∉ L := fun b o h m1 m2 hb => by
    rcases n b hb with ⟨C, dx, fs, e⟩ | ⟨xs, e⟩
    · rw [h] at e
      exact m1 _ _ _ (Option.some.inj e)
    · rw [h] at e
      exact m2 _ (Option.some.inj e)
  refine ⟨ps, s _ _ h1 (no _ _ h1 (fun _ _ _ z => by cases z) (fun _ z => by cases z)), h2, fun pos cv hc => ?_⟩
  obtain ⟨c, e1, e2⟩ := h3 pos cv hc
  exact ⟨c, e1, s _ _ e2 (no _ _ e2 (fun _ _ _ z => by unfold LamX.CodeO at z; cases z) (fun _ z => by unfold LamX.CodeO at z; cases z))⟩
theorem Rd.frm {T : List (Addr × Str)} {t d : Addr} {ds : List Addr} (r : Rd T t d ds H) (s : Frm L H H') (n : Plain L H) (ht : t ∉ L) (hd : ∀ c ∈ ds, c ∉ L) : Rd T t d ds H' :=
  ⟨s _ _ r.tl ht, fun c hc => by
    obtain ⟨x, y, e⟩ := r.all c hc
    exact ⟨x, y, s _ _ e (hd c hc)⟩, r.me, tabs_frm r.tb s n⟩
theorem sql_kp {a : Addr} {xs : List V} (s : Kp L H H') (ha : a ∉ L) (h : H a = some (.lst xs)) : H' a = some (.lst xs) := s _ _ h ha (fun ps z => by cases z)
end
/-! ### methods by their promises -/
structure MCal (P : Program) (w : World) (K : PySem.W.Frag) (mg : Str → Option Value) (base : Heap) (CX : CXT) (k : Nat) (C : Addr) (m : Str) (ps : List Str) (sp : Sp) : Prop where
  ex : ∃ f fd, FnOk P w K mg base CX k f fd ps sp ∧ Meth K C m f ∧ Binds K fd ps []
structure MkCal (P : Program) (w : World) (K : PySem.W.Frag) (mg : Str → Option Value) (base : Heap) (CX : CXT) (k : Nat) (C : Addr) (x : Str) (ps : List Str) (sp : Sp) : Prop where
  ex : ∃ f fd, FnOk P w K mg base CX k f fd ps sp ∧ Mk K C f ∧ mg x = some (.ref C) ∧ Binds K fd ps []
def tMc (C : Addr) (m : Str) (sp : Sp) (E : XK) (ta : TE) (t : TA) : TE := fun σ H Q => ta σ H fun x H1 => ∃ a dx fs, x = .ref a ∧ H1 a = some (.ins C dx fs) ∧ fs.lookup m = none ∧ t σ H1 fun vs H2 => sp (x :: vs) H2 Q E
def tMkc (C : Addr) (sp : Sp) (E : XK) (t : TA) : TE := fun σ H Q => t σ H fun vs H1 => ∀ x dx, H1 x = none → H1 dx = none → dx ≠ x → sp (.ref x :: vs) (upd (upd H1 dx (.own x)) x (.ins C dx [])) (fun v H2 => v = .non ∧ Q (.ref x) H2) E
section
variable {X : Cx} {CX : CXT} {k : Nat} {C : Addr} {m x : Str} {ps : List Str} {sp : Sp} {E : XK} {o e : Expr} {es : List Expr} {ta : TE} {t : TA} {p pos apos : Pos}
theorem pe_mc {pl : Sem Bool} (M : MCal X.prog X.w X.K X.mg X.base CX k C m ps sp) (he : PE X o ta) (c : Cls X.K C) (hr : Room k X.A) (hx : Passes CX X E) (ha : PA X (e :: es) t)
    (hst : starEach (e :: es) X.env = (false, eval e X.env) :: starEach es X.env := by rfl) (hpl : (backTo pos (starEach es X.env)).any (·.1) = false := by rfl)
    (ht : eval (.Call (.Attribute o m apos) (e :: es) [] pos) X.env = (do
      let ov ← eval o X.env
      standAt apos.atName
      let (f, first) ← holding [ov] (getMethod ov m pl)
      callWith pos f first (backTo pos (starEach (e :: es) X.env)) (backToKw pos (keywordEach [] X.env))) := by rfl) :
    PE X (.Call (.Attribute o m apos) (e :: es) [] pos) (tMc C m sp E ta t) := by
  obtain ⟨f, fd, G, hm, b⟩ := M.ex
  have h := pe_meth (E := E) he c hm G hr b .nil hx ha hst hpl ht
  refine ⟨fun pins s σ H Q I q => h.run pins s σ H Q I ?_⟩
  refine (show tMeth C m sp [] E ta t σ H Q from ?_)
  unfold tMeth
  unfold tMc at q
  simpa using q
theorem pe_mc0 {pl : Sem Bool} (M : MCal X.prog X.w X.K X.mg X.base CX k C m ps sp) (he : PE X o ta) (c : Cls X.K C) (hr : Room k X.A) (hx : Passes CX X E)
    (ht : eval (.Call (.Attribute o m apos) [] [] pos) X.env = (do
      let ov ← eval o X.env
      standAt apos.atName
      let (f, first) ← holding [ov] (getMethod ov m pl)
      callWith pos f first (backTo pos (starEach [] X.env)) (backToKw pos (keywordEach [] X.env))) := by rfl) :
    PE X (.Call (.Attribute o m apos) [] [] pos) (tMc C m sp E ta tNil) := by
  obtain ⟨f, fd, G, hm, b⟩ := M.ex
  have h := pe_meth0 (E := E) he c hm G hr b .nil hx ht
  refine ⟨fun pins s σ H Q I q => h.run pins s σ H Q I ?_⟩
  refine (show tMeth C m sp [] E ta tNil σ H Q from ?_)
  unfold tMeth
  unfold tMc at q
  simpa using q
theorem pe_mkc (M : MkCal X.prog X.w X.K X.mg X.base CX k C x ps sp) (hr : Room (k + 1) X.A) (hx : Passes CX X E) (ha : PA X (e :: es) t) (hg : Gl X x := by rfl) (hdb : (x == ("__debug__" : Str)) = false := by decide)
    (he : starEach (e :: es) X.env = (false, eval e X.env) :: starEach es X.env := by rfl) (hpl : (backTo pos (starEach es X.env)).any (·.1) = false := by rfl) :
    PE X (.Call (.Name x p) (e :: es) [] pos) (tMkc C sp E t) := by
  obtain ⟨f, fd, G, hm, hmg, b⟩ := M.ex
  have h := pe_make (E := E) (p := p) (pos := pos) hm G hr hg hmg b .nil hx ha hdb he hpl
  refine ⟨fun pins s σ H Q I q => h.run pins s σ H Q I ?_⟩
  refine (show tMake C sp [] E t σ H Q from ?_)
  unfold tMake
  unfold tMkc at q
  simpa using q
end
end FC
set_option Elab.async false
set_option linter.all false
set_option maxRecDepth 100000
set_option maxHeartbeats 2000000
/-! Two feeds in turn: what stands through a round. -/
namespace FC
open PySem PySem.Spec PyProof.Rows L2
def put1 {α : Type} (f : Nat → α) (k : Nat) (x : α) : Nat → α := fun i => if i = k then x else f i
theorem put1_same {α : Type} (f : Nat → α) (k : Nat) (x : α) : put1 f k x k = x := if_pos rfl
theorem put1_ne {α : Type} {f : Nat → α} {k i : Nat} {x : α} (h : i ≠ k) : put1 f k x i = f i := if_neg h
theorem lt2 {k : Nat} (h : k < 2) : k = 0 ∨ k = 1 := by omega
theorem two_get {α : Type} (f : Nat → α) {k : Nat} (h : k < 2) : [f 0, f 1][k]? = some (f k) := by
  rcases lt2 h with rfl | rfl <;> rfl
theorem two_set (f : Nat → Addr) {k : Nat} (h : k < 2) (x : Addr) : ([V.ref (f 0), .ref (f 1)].set k (.ref x)) = [V.ref (put1 f k x 0), .ref (put1 f k x 1)] := by
  rcases lt2 h with rfl | rfl <;> rfl
/-- what stands through a round: the dice; chains, feeds and rows in their lists -/
structure W2 (K : PySem.W.Frag) (C : Addr) (T : List (Addr × Str)) (t d : Addr) (ds : List Addr) (cs fs rs : Addr) (c a : Nat → Addr) (ps : Nat → List Stp) (F : Nat → FC5) (row und : Nat → List Int) (q : Nat → Addr) (rw : Nat → List Int) (H : Hp) : Prop where
  rd : Rd T t d ds H
  cl : H cs = some (.lst [.ref (c 0), .ref (c 1)])
  fl : H fs = some (.lst [.ref (a 0), .ref (a 1)])
  rl : H rs = some (.lst [.ref (q 0), .ref (q 1)])
  ch : ∀ i, i < 2 → ChainAt K H (c i) ((ps i).map Stp.v)
  co : ∀ i, i < 2 → chainOk ((ps i).map Stp.v) = true
  fd : ∀ i, i < 2 → FeedS K C H (a i) (F i) (ps i) (row i) (und i)
  qt : ∀ i, i < 2 → SqT K H (q i) ((rw i).map V.int)
  ap : ∀ i j, i < 2 → j < 2 → i ≠ j → ∀ b ∈ (F i).cells (a i), b ∉ (F j).cells (a j)
  out : ∀ i, i < 2 → ∀ b ∈ (F i).cells (a i), b ≠ t ∧ b ∉ ds ∧ b ≠ cs ∧ b ≠ fs ∧ b ≠ rs
  sep : rs ≠ t ∧ rs ∉ ds ∧ rs ≠ cs ∧ rs ≠ fs ∧ cs ∉ ds ∧ fs ∉ ds
section
variable {K : PySem.W.Frag} {C : Addr} {T : List (Addr × Str)} {t d : Addr} {ds : List Addr} {cs fs rs : Addr} {c a : Nat → Addr} {ps : Nat → List Stp} {F : Nat → FC5} {row und : Nat → List Int} {q : Nat → Addr} {rw : Nat → List Int} {H H' : Hp}
theorem W2.step (w : W2 K C T t d ds cs fs rs c a ps F row und q rw H) (s : Kp [d] H H') (hd : Dice H' d) (tb : LamX.Tabs T H') : W2 K C T t d ds cs fs rs c a ps F row und q rw H' := by
  have pd : Plain [d] H := Plain.dice w.rd.d
  obtain ⟨s1, s2, s3, s4, s5, s6⟩ := w.sep
  have md := w.rd.me
  have nd : ∀ b, b ≠ d → b ∉ [d] := fun b h z => h (List.mem_singleton.mp z)
  refine ⟨w.rd.step (fun b o h n m => s b o h (nd b n) m) hd tb, sql_kp s (nd _ (fun z => s5 (by rw [z]; exact md))) w.cl, sql_kp s (nd _ (fun z => s6 (by rw [z]; exact md))) w.fl, sql_kp s (nd _ (fun z => s2 (by rw [z]; exact md))) w.rl,
    fun i hi => chain_kp s pd (w.co i hi) (w.ch i hi), w.co, fun i hi => (w.fd i hi).kp s pd (fun b hb => ?_), fun i hi => sqt_kp s pd (w.qt i hi), w.ap, w.out, w.sep⟩
  rw [List.mem_singleton.mp hb]
  exact fun z => (w.out i hi d z).2.1 md
theorem W2.same (w : W2 K C T t d ds cs fs rs c a ps F row und q rw H) (s : Same H H') : W2 K C T t d ds cs fs rs c a ps F row und q rw H' := w.step (Kp.same s) (w.rd.d.same s) (w.rd.tb.ext s)
theorem W2.roll (w : W2 K C T t d ds cs fs rs c a ps F row und q rw H) (s : SameX d H H') (hd : Dice H' d) : W2 K C T t d ds cs fs rs c a ps F row und q rw H' := w.step (Kp.sameX s) hd (tabs_sameX w.rd.tb w.rd.d s)
theorem W2.ext (w : W2 K C T t d ds cs fs rs c a ps F row und q rw H) (s : LamX.ExtN H H') (tb : LamX.Tabs T H') : W2 K C T t d ds cs fs rs c a ps F row und q rw H' := by
  obtain ⟨x, y, e⟩ := w.rd.d
  exact w.step (Kp.ext s) ⟨x, y, s _ _ e (fun ps z => by cases z)⟩ tb
/-- another row is put into the list of rows -/
theorem W2.rows (w : W2 K C T t d ds cs fs rs c a ps F row und q rw H) {k : Nat} (hk : k < 2) {q' : Addr} {r' : List Int} (hq : SqT K H q' (r'.map V.int)) :
    W2 K C T t d ds cs fs rs c a ps F row und (put1 q k q') (put1 rw k r') (upd H rs (.lst ([V.ref (q 0), .ref (q 1)].set k (.ref q')))) := by
  obtain ⟨s1, s2, s3, s4, s5, s6⟩ := w.sep
  have fr : Frm [rs] H (upd H rs (.lst ([V.ref (q 0), .ref (q 1)].set k (.ref q')))) := (Frm.refl _ H).upd (by simp)
  have pl : Plain [rs] H := Plain.lst w.rl
  have nd : ∀ b, b ≠ rs → b ∉ [rs] := fun b h z => h (List.mem_singleton.mp z)
  refine ⟨w.rd.frm fr pl (nd _ (fun z => s1 z.symm)) (fun b hb => nd _ (fun z => s2 (by rw [← z]; exact hb))), fr _ _ w.cl (nd _ (fun z => s3 z.symm)), fr _ _ w.fl (nd _ (fun z => s4 z.symm)), by rw [upd_same, two_set q hk],
    fun i hi => chain_kp (Kp.frm fr) pl (w.co i hi) (w.ch i hi), w.co, fun i hi => (w.fd i hi).kp (Kp.frm fr) pl (fun b hb => ?_), fun i hi => ?_, w.ap, w.out, w.sep⟩
  · rw [List.mem_singleton.mp hb]
    exact fun z => (w.out i hi rs z).2.2.2.2 rfl
  · by_cases h : i = k
    · subst h
      rw [put1_same, put1_same]
      exact sqt_kp (Kp.frm fr) pl hq
    · rw [put1_ne h, put1_ne h]
      exact sqt_kp (Kp.frm fr) pl (w.qt i hi)
/-- one of the feeds has changed -/
theorem W2.meth (w : W2 K C T t d ds cs fs rs c a ps F row und q rw H) {k : Nat} (hk : k < 2) {F' : FC5} {row' und' : List Int} (f' : FeedS K C H' (a k) F' (ps k) row' und') (fr : Frm ((F k).cells (a k)) H H')
    (new : ∀ b ∈ F'.cells (a k), b ∈ (F k).cells (a k) ∨ H b = none) : W2 K C T t d ds cs fs rs c a ps (put1 F k F') (put1 row k row') (put1 und k und') q rw H' := by
  have pl : Plain ((F k).cells (a k)) H := (w.fd k hk).plain
  have hout := w.out k hk
  have no : ∀ b o, H b = some o → (b = t ∨ b ∈ ds ∨ b = cs ∨ b = fs ∨ b = rs) → b ∉ (F k).cells (a k) := fun b o _ h z => by
    obtain ⟨h1, h2, h3, h4, h5⟩ := hout b z
    rcases h with h | h | h | h | h
    · exact h1 h
    · exact h2 h
    · exact h3 h
    · exact h4 h
    · exact h5 h
  have ex : ∀ b, (b = t ∨ b ∈ ds ∨ b = cs ∨ b = fs ∨ b = rs) → ∃ o, H b = some o := fun b h => by
    rcases h with h | h | h | h | h
    · exact ⟨_, by rw [h]; exact w.rd.tl⟩
    · obtain ⟨x, y, e⟩ := w.rd.all b h
      exact ⟨_, e⟩
    · exact ⟨_, by rw [h]; exact w.cl⟩
    · exact ⟨_, by rw [h]; exact w.fl⟩
    · exact ⟨_, by rw [h]; exact w.rl⟩
  have cellx : ∀ j, j < 2 → ∀ b ∈ (F j).cells (a j), ∃ o, H b = some o := fun j hj b hb => by
    rcases (w.fd j hj).plain b hb with ⟨C, dx, gs, e⟩ | ⟨xs, e⟩ <;> exact ⟨_, e⟩
  refine ⟨w.rd.frm fr pl (no t _ w.rd.tl (.inl rfl)) (fun b hb => by obtain ⟨o, e⟩ := ex b (.inr (.inl hb)); exact no b o e (.inr (.inl hb))), fr _ _ w.cl (no _ _ w.cl (.inr (.inr (.inl rfl)))), fr _ _ w.fl (no _ _ w.fl (.inr (.inr (.inr (.inl rfl))))), fr _ _ w.rl (no _ _ w.rl (.inr (.inr (.inr (.inr rfl))))),
    fun i hi => chain_kp (Kp.frm fr) pl (w.co i hi) (w.ch i hi), w.co, fun i hi => ?_, fun i hi => sqt_kp (Kp.frm fr) pl (w.qt i hi), fun i j hi hj ne b hb => ?_, fun i hi b hb => ?_, w.sep⟩
  · by_cases h : i = k
    · subst h
      rw [put1_same, put1_same, put1_same]
      exact f'
    · rw [put1_ne h, put1_ne h, put1_ne h]
      exact (w.fd i hi).kp (Kp.frm fr) pl (fun b hb => w.ap k i hk hi (fun z => h z.symm) b hb)
  · by_cases h : i = k
    · subst h
      have hj' : j ≠ i := fun z => ne z.symm
      rw [put1_same] at hb
      rw [put1_ne hj']
      rcases new b hb with z | z
      · exact w.ap i j hi hj ne b z
      · intro hb2
        obtain ⟨o, e⟩ := cellx j hj b hb2
        rw [z] at e
        cases e
    · rw [put1_ne h] at hb
      by_cases h2 : j = k
      · subst h2
        rw [put1_same]
        intro hb2
        rcases new b hb2 with z | z
        · exact w.ap i j hi hj ne b hb z
        · obtain ⟨o, e⟩ := cellx i hi b hb
          rw [z] at e
          cases e
      · rw [put1_ne h2]
        exact w.ap i j hi hj ne b hb
  · by_cases h : i = k
    · subst h
      rw [put1_same] at hb
      rcases new b hb with z | z
      · exact w.out i hi b z
      · have n : ∀ y, (y = t ∨ y ∈ ds ∨ y = cs ∨ y = fs ∨ y = rs) → b ≠ y := fun y hy w' => by
          obtain ⟨o, e⟩ := ex y hy
          rw [← w', z] at e
          cases e
        exact ⟨n t (.inl rfl), fun w' => n b (.inr (.inl w')) rfl, n cs (.inr (.inr (.inl rfl))), n fs (.inr (.inr (.inr (.inl rfl)))), n rs (.inr (.inr (.inr (.inr rfl))))⟩
    · rw [put1_ne h] at hb
      exact w.out i hi b hb
end
/-- the last of the law's own tuples -/
theorem given_last {H : Hp} {qs : List Addr} {ps : List Stp} {r0 : List Int} {x : Int} (h : TupsAt H qs (givenB ps (r0 ++ [x]))) : ∃ q8 qd, qs = q8 ++ [qd] ∧ H qd = some (.tup ((newM ps r0 [x]).map V.int)) := by
  obtain ⟨h1, h2⟩ := h
  rw [given_snoc] at h1 h2
  rw [List.length_append, List.length_singleton] at h1
  rcases List.eq_nil_or_concat qs with z | ⟨l, y, z⟩
  · rw [z] at h1
    simp at h1
  · refine ⟨l, y, by rw [z, List.concat_eq_append], h2 l.length y _ ?_ ?_⟩
    · rw [z, List.concat_eq_append, List.getElem?_append_right (Nat.le_refl _), Nat.sub_self]
      rfl
    · have e : (givenB ps r0).length = l.length := by
        rw [z, List.concat_eq_append, List.length_append, List.length_singleton] at h1
        omega
      rw [List.getElem?_append_right (by omega), e, Nat.sub_self]
      rfl
theorem ixN_two {k : Nat} (h : k < 2) {x y : V} : ixN [x, y].length (k : Int) = some k := by
  rcases lt2 h with rfl | rfl <;> rfl
theorem cut_last_ne (r0 : List Int) (x : Int) : HT.sIx (r0 ++ [x]).length (r0 ++ [x]).length (some (-1)) = r0.length := by
  rw [List.length_append, List.length_singleton]
  show (if (-1 : Int) < 0 then ((-1 : Int) + ((r0.length + 1 : Nat) : Int)).toNat else min (-1 : Int).toNat (r0.length + 1)) = r0.length
  rw [if_pos (by decide)]
  omega
theorem cut_last (r0 : List Int) (x : Int) : cutV ((r0 ++ [x]).map V.int) none (some (-1)) = r0.map V.int := by
  unfold cutV
  rw [List.length_map, cut_last_ne, HT.sIx_none, List.drop_zero, Nat.sub_zero, List.map_append, List.take_append_of_le_length (by rw [List.length_map]; exact Nat.le_refl _), List.take_of_length_le (by rw [List.length_map]; exact Nat.le_refl _)]
/-! ### tuples of numbers as data -/
theorem tp_dp {K : PySem.W.Frag} {H : Hp} {a : Addr} {ns : List Int} (h : SqT K H a (ns.map V.int)) : Dp K H (.ref a) (.tuple (intsD ns)) := .tup h (dp_intsD ns)
theorem tp_refl (ns : List Int) : PyData.eqv (.tuple (intsD ns)) (.tuple (intsD ns)) = true := SeqAt.eqv_refl _ (SeqAt.canLay_of_shaped (tp_shaped ns))
theorem tp_nil (ns : List Int) : PyData.eqv (.tuple (intsD ns)) (.tuple []) = ns.isEmpty := by
  cases ns <;> rfl
theorem lst_tp (ns ms : List Int) : PyData.eqv (.list (intsD ns)) (.list (intsD ms)) = PyData.eqv (.tuple (intsD ns)) (.tuple (intsD ms)) := rfl
theorem nil_shaped : SeqAt.shaped (PyData.tuple []) = true := by decide
end FC
set_option Elab.async false
set_option linter.all false
set_option maxRecDepth 100000
set_option maxHeartbeats 1000000
/-! Beginnings of rows; slices and sums of tuples, told alike. -/
namespace FC
open PySem PySem.Spec PyProof.Rows L2
theorem given_pre (ps : List Stp) (a : List Int) : ∀ b : List Int, ∃ c, givenB ps (a ++ b) = givenB ps a ++ c := by
  have key : ∀ (n : Nat) (b : List Int), b.length = n → ∃ c, givenB ps (a ++ b) = givenB ps a ++ c := fun n => by
    induction n with
    | zero => exact fun b h => ⟨[], by rw [List.eq_nil_of_length_eq_zero h, List.append_nil, List.append_nil]⟩
    | succ n ih =>
      intro b h
      rcases List.eq_nil_or_concat b with z | ⟨l, y, z⟩
      · rw [z] at h
        cases h
      · rw [List.concat_eq_append] at z
        subst z
        rw [List.length_append, List.length_singleton] at h
        obtain ⟨c, e⟩ := ih l (by omega)
        exact ⟨c ++ [newM ps (a ++ l) [y]], by rw [← List.append_assoc, given_snoc, e, List.append_assoc]⟩
  exact fun b => key _ b rfl
theorem given_take (ps : List Stp) (row : List Int) (k : Nat) : givenB ps (row.take k) = (givenB ps row).take k := by
  obtain ⟨c, e⟩ := given_pre ps (row.take k) (row.drop k)
  rw [List.take_append_drop] at e
  by_cases h : k ≤ row.length
  · have hl : (givenB ps (row.take k)).length = k := by rw [given_len, List.length_take]; omega
    have e2 : (givenB ps (row.take k) ++ c).take k = givenB ps (row.take k) := by
      rw [List.take_append_of_le_length (by omega), List.take_of_length_le (by omega)]
    rw [e, e2]
  · rw [List.take_of_length_le (l := row) (by omega), List.take_of_length_le (by rw [given_len]; omega)]
theorem given_get {ps : List Stp} {row : List Int} {i : Nat} {x : Int} (h : row[i]? = some x) : (givenB ps row)[i]? = some (newM ps (row.take i) [x]) := by
  have hi := get_lt h
  have e := given_take ps row (i + 1)
  rw [take_succ_get h, given_snoc] at e
  have h2 : ((givenB ps row).take (i + 1))[i]? = some (newM ps (row.take i) [x]) := by
    rw [← e, List.getElem?_append_right (by rw [given_len, List.length_take]; omega), given_len, List.length_take, show i - min i row.length = 0 by omega]
    rfl
  rw [List.getElem?_take, if_pos (by omega)] at h2
  exact h2
theorem flat_take {α : Type} : ∀ (L : List (List α)) (k : Nat), (L.take k).flatten = L.flatten.take ((L.take k).map List.length).sum
  | [], k => by simp
  | g :: r, 0 => by simp
  | g :: r, k + 1 => by
    rw [List.take_succ_cons, List.flatten_cons, List.flatten_cons, List.map_cons, List.sum_cons, flat_take r k, List.take_append, List.take_of_length_le (Nat.le_add_right _ _), Nat.add_sub_cancel_left]
theorem run_take (ps : List Stp) (row : List Int) (k : Nat) : runM ps (row.take k) = (runM ps row).take (((givenB ps row).take k).map List.length).sum := by
  unfold runM
  rw [given_take]
  exact flat_take _ _
theorem sum_lens (L : List (List Int)) : (L.map fun g => ((g.length : Nat) : Int)).sum = (((L.map List.length).sum : Nat) : Int) := by
  induction L with
  | nil => rfl
  | cons g r ih => rw [List.map_cons, List.map_cons, List.sum_cons, List.sum_cons, ih, Int.natCast_add]
theorem cut_to (xs : List V) (k : Nat) : cutV xs none (some (k : Int)) = xs.take k := by
  unfold cutV
  rw [HT.sIx_none, HT.sIx_nat, List.drop_zero, Nat.sub_zero]
  by_cases h : k ≤ xs.length
  · rw [Nat.min_eq_left h]
  · rw [Nat.min_eq_right (by omega), List.take_of_length_le (Nat.le_refl _), List.take_of_length_le (by omega)]
/-- t[lo:hi], whatever place it has -/
def rSlU (K : PySem.W.Frag) : V → Option Int → Option Int → Hp → VK → Prop := fun x lo hi H Q => ∃ a xs, x = .ref a ∧ SqT K H a xs ∧ ∀ p H', Same H H' → SqT K H' p (cutV xs lo hi) → Q (.ref p) H'
theorem sl_tupU {X : Cx} : SlR X (rSlU X.K) := by
  intro pins s σ H x v vl vu lo hi sl Q I rx hs pl pu h
  obtain ⟨a, xs, rfl, hx, q⟩ := h
  refine sl_tupA pins s σ H _ v vl vu lo hi sl Q I rx hs pl pu ⟨a, xs, rfl, hx, fun w => q a H (Same.refl H) ?_, fun _ p np => q p _ (same_upd (Same.refl H) np) sqt_new⟩
  have e : cutV xs lo hi = xs := by
    unfold cutV
    rw [w.1, w.2, List.drop_zero, Nat.sub_zero, List.take_of_length_le (Nat.le_refl _)]
  rw [e]
  exact hx
/-- t + u, whatever place it has -/
def rCatU (K : PySem.W.Frag) : R2 := fun x y H Q => ∃ a b xs ys, x = .ref a ∧ y = .ref b ∧ SqT K H a xs ∧ SqT K H b ys ∧ xs.length + ys.length ≤ sizeLine ∧ ∀ p H', Same H H' → SqT K H' p (xs ++ ys) → Q (.ref p) H'
theorem op_catU {X : Cx} : OpR X (binaryOp .Add) (rCatU X.K) := by
  intro pins s σ H x y v u Q I rx ry h
  obtain ⟨a, b, xs, ys, rfl, rfl, ha, hb, hz, q⟩ := h
  exact op_catA pins s σ H _ _ v u Q I rx ry ⟨a, b, xs, ys, rfl, rfl, ha, hb, hz, fun e => q b H (Same.refl H) (by rw [e]; exact hb), fun _ e => q a H (Same.refl H) (by rw [e, List.append_nil]; exact ha), fun _ _ p np => q p _ (same_upd (Same.refl H) np) sqt_new⟩
end FC
set_option Elab.async false
set_option linter.all false
set_option maxRecDepth 100000
set_option maxHeartbeats 4000000
/-! undo, redo, row, given, len, the making of a feed. -/
namespace FC
open PySem PySem.Spec PyProof.Rows L2
/-- loops over a list in a comprehension, whatever stands in them -/
theorem walk_lst {K : PySem.W.Frag} {a : Addr} {xs : List V} {H0 : Hp} {Qd : Hp → Prop} {Body : V → Hp → (Hp → Prop) → Prop} (Pv : Nat → Hp → Prop) (h0 : Pv 0 H0) (hl : ∀ i H, i ≤ xs.length → Pv i H → SqL K H a xs)
    (hs : ∀ i x H, xs[i]? = some x → Pv i H → Body x H (Pv (i + 1))) (hd : ∀ H, Pv xs.length H → Qd H) :
    ∃ W : Nat → Nat → Hp → Prop, (∃ m, W 0 m H0) ∧ ∀ i m H, W i m H →
      ((Itl K a).stop i H ∧ Qd H) ∨ ((Itl K a).go i H ∧ ∃ Nx : Hp → Prop, (∀ H', Nx H' → ∃ m', m' < m ∧ W (i + 1) m' H') ∧ ∀ x H', (Itl K a).yld i H x H' → Body x H' Nx) := by
  refine ⟨fun i m H => m = xs.length - i ∧ i ≤ xs.length ∧ Pv i H, ⟨xs.length, by simp, Nat.zero_le _, h0⟩, ?_⟩
  rintro i m H ⟨rfl, hi, p⟩
  have q := hl i H hi p
  by_cases hlt : i < xs.length
  · refine .inr ⟨⟨xs, xs[i], q, by simp [hlt]⟩, Pv (i + 1), fun H' p' => ⟨xs.length - (i + 1), by omega, rfl, hlt, p'⟩, fun x H' y => ?_⟩
    obtain ⟨e, y⟩ := y
    subst e
    exact hs i x _ (y xs q) p
  · have e : i = xs.length := by omega
    subst e
    exact .inl ⟨⟨xs, q, Nat.le_refl _⟩, hd H p⟩
theorem walk_tp {K : PySem.W.Frag} {a : Addr} {xs : List V} {H0 : Hp} {Qd : Hp → Prop} {Body : V → Hp → (Hp → Prop) → Prop} (Pv : Nat → Hp → Prop) (h0 : Pv 0 H0) (hl : ∀ i H, i ≤ xs.length → Pv i H → SqT K H a xs)
    (hs : ∀ i x H, xs[i]? = some x → Pv i H → Body x H (Pv (i + 1))) (hd : ∀ H, Pv xs.length H → Qd H) :
    ∃ W : Nat → Nat → Hp → Prop, (∃ m, W 0 m H0) ∧ ∀ i m H, W i m H →
      ((Itt K a).stop i H ∧ Qd H) ∨ ((Itt K a).go i H ∧ ∃ Nx : Hp → Prop, (∀ H', Nx H' → ∃ m', m' < m ∧ W (i + 1) m' H') ∧ ∀ x H', (Itt K a).yld i H x H' → Body x H' Nx) := by
  refine ⟨fun i m H => m = xs.length - i ∧ i ≤ xs.length ∧ Pv i H, ⟨xs.length, by simp, Nat.zero_le _, h0⟩, ?_⟩
  rintro i m H ⟨rfl, hi, p⟩
  have q := hl i H hi p
  by_cases hlt : i < xs.length
  · refine .inr ⟨⟨xs, xs[i], q, by simp [hlt]⟩, Pv (i + 1), fun H' p' => ⟨xs.length - (i + 1), by omega, rfl, hlt, p'⟩, fun x H' y => ?_⟩
    obtain ⟨e, y⟩ := y
    subst e
    exact hs i x _ (y xs q) p
  · have e : i = xs.length := by omega
    subst e
    exact .inl ⟨⟨xs, q, Nat.le_refl _⟩, hd H p⟩
section
variable {P : Program} {w : World} {K : PySem.W.Frag} {mg : Str → Option Value} {base : Heap}
/-! ### row, given, len -/
def spRowF (K : PySem.W.Frag) (C : Addr) : Sp := fun vs H Q _ => ∃ (a : Addr) (F : FC5) (ps : List Stp) (row und : List Int), vs = [.ref a] ∧ FeedS K C H a F ps row und ∧ ∀ t H', Same H H' → H' t = some (.tup (row.map V.int)) → Q (.ref t) H'
theorem scRowF : FnScope ["self"] ["self"] (defScope (fdM 4)) := ⟨rfl, rfl, rfl, by decide +kernel, rfl, by decide +kernel, by decide +kernel⟩
theorem ok_rowF {f C : Addr} {fd : FuncData} (F : Fun K "row" "Feed.row" (fdM 4) f fd) (T : FdT K mg C) (B : Blt mg) : FnOk P w K mg base CX0 1 f fd ["self"] (spRowF K C) := by
  refine F.ok scRowF (fun vs H Q E h => ?_) (fun cdv A outer s H vs Q E hr h => ?_)
  · obtain ⟨a, F, ps, row, und, rfl, _⟩ := h
    rfl
  · obtain ⟨a, F, ps, row, und, rfl, hf, k⟩ := h
    refine ⟨_, pss_one (ps_ret (pe_callTy call_tuple_of (by rfl) B.tuple (by decide +kernel) (pa_cons (pe_fld (pv 0) rfl) pa_nil))), ?_⟩
    obtain ⟨dx, hi⟩ := hf.ins
    exact ⟨_, rfl, a, C, dx, _, _, rfl, hi, T.cl, T.nn, F.numbers, F.n, _, rfl, .inl ⟨SqL.of hf.numbers, fun t nt => k t _ (same_upd (Same.refl H) nt) upd_same⟩⟩
def spLenF (K : PySem.W.Frag) (C : Addr) : Sp := fun vs H Q _ => ∃ (a : Addr) (F : FC5) (ps : List Stp) (row und : List Int), vs = [.ref a] ∧ FeedS K C H a F ps row und ∧ Q (.int (row.length : Nat)) H
theorem scLenF : FnScope ["self"] ["self"] (defScope (fdM 8)) := ⟨rfl, rfl, rfl, by decide +kernel, rfl, by decide +kernel, by decide +kernel⟩
theorem scGivF : FnScope ["self", "answer", "number"] ["self"] (defScope (fdM 5)) := ⟨rfl, rfl, rfl, by decide +kernel, rfl, by decide +kernel, by decide +kernel⟩
def spGivF (K : PySem.W.Frag) (C : Addr) : Sp := fun vs H Q _ => ∃ (a : Addr) (F : FC5) (ps : List Stp) (row und : List Int), vs = [.ref a] ∧ FeedS K C H a F ps row und ∧ ps.length ≤ 4 ∧ row.length ≤ 100 ∧ ∀ t H', Same H H' → H' t = some (.tup ((runM ps row).map V.int)) → Q (.ref t) H'
theorem ok_givF {f C : Addr} {fd : FuncData} (F : Fun K "given" "Feed.given" (fdM 5) f fd) (T : FdT K mg C) (B : Blt mg) : FnOk P w K mg base CX0 1 f fd ["self"] (spGivF K C) := by
  refine F.ok scGivF (fun vs H Q E h => ?_) (fun cdv A outer s H vs Q E hr h => ?_)
  · obtain ⟨a, F, ps, row, und, rfl, _⟩ := h
    rfl
  · obtain ⟨a, F, ps, row, und, rfl, hf, hl, hlr, k⟩ := h
    have nd := scGivF.nd
    refine ⟨_, pss_one (ps_ret (pe_callTy call_tuple_of (by rfl) B.tuple (by decide +kernel) (pa_cons (pe_lc2 (own := [("answer", 1), ("number", 2)]) (vs1 := [2]) (g := gName 1) (g1 := gName 2) (tt := tYes) (tt1 := tYes) (wi1 := iTup K (tVar 1)) (te := tVar 2) (by rfl) nd (pi_list (pe_fld (pv 0) rfl))
      (blkOk_by (own := [("answer", 1), ("number", 2)]) (N := ["self", "answer", "number"]) (sc := defScope (fdM 5)) (by decide +kernel)) (by decide) (fun _ _ _ _ _ => pg_name (i := 1) nd rfl (Or.inl rfl)) (fun _ _ _ _ _ => pts_nil) (fun _ _ _ _ _ => pi_tup (pv 1)) (fun _ _ _ _ _ => pg_name (i := 2) nd rfl (Or.inl rfl)) (fun _ _ _ _ _ => pts_nil) (fun _ _ _ _ _ => pv 2)) pa_nil))), ?_⟩
    obtain ⟨dx, hi⟩ := hf.ins
    obtain ⟨qs, hq, hqa⟩ := hf.answers
    refine ⟨_, rfl, a, C, dx, _, _, rfl, hi, T.cl, T.na, F.answers, F.an, rfl, ⟨_, SqL.of hq⟩, fun D nD => ?_⟩
    refine walk_lst (K := K) (a := F.an) (xs := qs.map V.ref) (fun i H2 => Same H H2 ∧ H2 D = some (.lst (((givenB ps row).take i).flatten.map V.int))) ⟨same_upd (Same.refl H) nD, upd_same⟩ (fun i H2 _ ⟨s2, _⟩ => sql_same s2 (SqL.of hq)) ?_ ?_
    · rintro i x H2 hx ⟨s2, e2⟩
      have hi := get_lt hx
      rw [List.length_map] at hi
      obtain ⟨q, hqi⟩ : ∃ q, qs[i]? = some q := ⟨qs[i], List.getElem?_eq_getElem hi⟩
      rw [List.getElem?_map, hqi] at hx
      have hx : V.ref q = x := Option.some.inj hx
      subst hx
      have hgl := hqa.1
      obtain ⟨g, hg⟩ : ∃ g, (givenB ps row)[i]? = some g := ⟨(givenB ps row)[i]'(by omega), List.getElem?_eq_getElem (by omega)⟩
      have hgt := hqa.2 i q g hqi hg
      have et : (givenB ps row).take (i + 1) = (givenB ps row).take i ++ [g] := take_succ_get hg
      have ef : ((givenB ps row).take (i + 1)).flatten.map V.int = ((givenB ps row).take i).flatten.map V.int ++ g.map V.int := by
        rw [et, List.flatten_append, List.map_append]
        simp
      have hlen : (((givenB ps row).take i).flatten.map V.int).length + (g.map V.int).length ≤ 4000 := by
        have h1 := run_len ps row
        have h3 : 2 ^ ps.length ≤ 2 ^ 4 := Nat.pow_le_pow_right (by decide) hl
        have h4 : 2 ^ ps.length * row.length ≤ 2 ^ 4 * 200 := Nat.mul_le_mul h3 (by omega)
        have e9 : (givenB ps row) = (givenB ps row).take (i + 1) ++ (givenB ps row).drop (i + 1) := (List.take_append_drop _ _).symm
        have h5 : (runM ps row).length = (((givenB ps row).take (i + 1)).flatten).length + (((givenB ps row).drop (i + 1)).flatten).length := by
          show ((givenB ps row).flatten).length = _
          rw [← List.length_append, ← List.flatten_append, ← e9]
        have h6 : (((givenB ps row).take (i + 1)).flatten.map V.int).length = (((givenB ps row).take i).flatten.map V.int).length + (g.map V.int).length := by rw [ef, List.length_append]
        rw [List.length_map] at h6
        omega
      refine ⟨rfl, _, rfl, q, rfl, ⟨_, sqt_same s2 hgt⟩, ?_⟩
      refine walk_tp (K := K) (a := q) (xs := g.map V.int) (fun j H3 => Same H H3 ∧ H3 D = some (.lst (((givenB ps row).take i).flatten.map V.int ++ (g.take j).map V.int))) ⟨s2, by rw [List.take_zero, List.map_nil, List.append_nil]; exact e2⟩ (fun j H3 _ ⟨s3, _⟩ => sqt_same s3 hgt) ?_ ?_
      · rintro j y H3 hy ⟨s3, e3⟩
        obtain ⟨n, hn, rfl⟩ : ∃ n, g[j]? = some n ∧ y = .int n := by
          rw [List.getElem?_map] at hy
          obtain ⟨n, h1, h2⟩ := Option.map_eq_some_iff.mp hy
          exact ⟨n, h1, h2.symm⟩
        have hj := get_lt hn
        refine ⟨rfl, _, rfl, _, e3, ?_, ?_, ?_⟩
        · have hsl : 4000 < sizeLine := by decide
          rw [List.length_append, List.length_map (as := g.take j), List.length_take]
          rw [List.length_map (as := g)] at hlen
          omega
        · intro b1 o1 hb1
          rw [upd_ne (ne_of_none hb1 nD)]
          exact s3 _ _ hb1
        · rw [upd_same, take_succ_get hn, List.map_append, List.append_assoc]
          rfl
      · rintro H3 ⟨s3, e3⟩
        rw [List.length_map, List.take_length] at e3
        exact ⟨s3, by rw [ef]; exact e3⟩
    · rintro H2 ⟨s2, e2⟩
      rw [List.length_map, hqa.1, List.take_length] at e2
      exact ⟨D, _, rfl, .inl ⟨SqL.of e2, fun t nt => k t _ (same_upd s2 nt) upd_same⟩⟩
theorem ok_lenF {f C : Addr} {fd : FuncData} (F : Fun K "__len__" "Feed.__len__" (fdM 8) f fd) (T : FdT K mg C) (B : Blt mg) : FnOk P w K mg base CX0 1 f fd ["self"] (spLenF K C) := by
  refine F.ok scLenF (fun vs H Q E h => ?_) (fun cdv A outer s H vs Q E hr h => ?_)
  · obtain ⟨a, F, ps, row, und, rfl, _⟩ := h
    rfl
  · obtain ⟨a, F, ps, row, und, rfl, hf, k⟩ := h
    refine ⟨_, pss_one (ps_ret (pe_callB call_len_seq (by rfl) B.len PySem.boot_len (pa_cons (pe_fld (pv 0) rfl) pa_nil))), ?_⟩
    obtain ⟨dx, hi⟩ := hf.ins
    have hn := hf.numbers
    refine ⟨_, rfl, a, C, dx, _, _, rfl, hi, T.cl, T.nn, F.numbers, F.n, _, rfl, .inl (SqL.of hn), ?_⟩
    rw [List.length_map]
    exact k
end
end FC
set_option Elab.async false
set_option linter.all false
set_option maxRecDepth 100000
set_option maxHeartbeats 4000000
namespace FC
open PySem L2
section
variable {P : Program} {w : World} {K : PySem.W.Frag} {mg : Str → Option Value} {base : Heap} {c0 c1 c2 c3 c4 c5 : Addr}
theorem scTerm : FnScope ["_law_e", "_law_flags", "_law_kinds"] ["_law_e"] (defScope sTerm) := ⟨rfl, rfl, rfl, by decide +kernel, rfl, by decide +kernel, by decide +kernel⟩
theorem ok_term {f : Addr} {fd : FuncData} (F : Fun K "_law_term" "_law_term" sTerm f fd) (T : Blt mg) (G : SixT mg c0 c1 c2 c3 c4 c5) : FnP P w K mg base 1 f fd ["_law_e"] (spTerm K c0 c1 c2 c3 c4 c5) := by
  refine okP F scTerm (fun p vs H Q E h => ?_) (fun cdv p A outer s H vs Q E hot hr h => ?_)
  · obtain ⟨_, _, _, rfl, _⟩ := h
    rfl
  · obtain ⟨D, i, z, rfl, hz, hf, O, hzi, k⟩ := h
    have nd := scTerm.nd
    have hc : L2H.HotC (L2H.cxH CX0 P w K mg base ["_law_e", "_law_flags", "_law_kinds"] "_law_term" (defScope sTerm) f cdv A outer s H E p) := ⟨p, hot, List.mem_cons_self⟩
    have hI := isi_hot (X := L2H.cxH CX0 P w K mg base ["_law_e", "_law_flags", "_law_kinds"] "_law_term" (defScope sTerm) f cdv A outer s H E p) (p := p) (D := D) List.mem_cons_self O.ex hz hf
    refine ⟨_, pss_cons (ps_set (i := 1) nd rfl (Or.inl rfl) (pe_lst (pa_cons (pe_callB hI (by rfl) T.isi (by decide +kernel) (pa_cons (pv 0) (pa_cons (pe_glob (v := .ref c0) rfl G.g0 rfl) pa_nil)))
          (pa_cons (pe_callB hI (by rfl) T.isi (by decide +kernel) (pa_cons (pv 0) (pa_cons (pe_glob (v := .ref c1) rfl G.g1 rfl) pa_nil))) (pa_cons (pe_callB hI (by rfl) T.isi (by decide +kernel) (pa_cons (pv 0) (pa_cons (pe_glob (v := .ref c2) rfl G.g2 rfl) pa_nil))) pa_nil)))))
      (pss_cons (ps_set (i := 1) nd rfl (Or.inl rfl) (pe_op op_cat (pv 1) (pe_lst (pa_cons (pe_callB hI (by rfl) T.isi (by decide +kernel) (pa_cons (pv 0) (pa_cons (pe_glob (v := .ref c3) rfl G.g3 rfl) pa_nil)))
          (pa_cons (pe_callB hI (by rfl) T.isi (by decide +kernel) (pa_cons (pv 0) (pa_cons (pe_glob (v := .ref c4) rfl G.g4 rfl) pa_nil))) (pa_cons (pe_callB hI (by rfl) T.isi (by decide +kernel) (pa_cons (pv 0) (pa_cons (pe_glob (v := .ref c5) rfl G.g5 rfl) pa_nil))) pa_nil))))))
      (pss_cons (ps_set (i := 2) nd rfl (Or.inl rfl) (pe_lst (pa_cons pe_str (pa_cons pe_str (pa_cons pe_str (pa_cons pe_str (pa_cons pe_str (pa_cons pe_str pa_nil))))))))
      (pss_cons (ps_if (PW.pt (pw_or (pt_cmpR op_ne (pe_callB (sum_hot hc) (by rfl) T.sum (by decide +kernel) (pa_cons (pe_ints_hot (i := 1) hc T.int rfl (Or.inl rfl) (by decide) (by decide) rfl (by decide +kernel) (by decide +kernel) (by decide +kernel) (by decide +kernel) (by decide)
            (fun _ _ => by rfl) (fun _ _ => by rfl) (fun _ _ => by rfl)) pa_nil)) pe_int (nomark _))
          (pw_or1 (pt_not (pt_val (pe_callB hI (by rfl) T.isi (by decide +kernel) (pa_cons (pv 0) (pa_cons (pe_bltn (v := .ty "ValueError") (by rfl) T.vErr (by decide +kernel) rfl) pa_nil)))))))) (pss_one (ps_ret (pe_tup (pa_cons pe_str (pa_cons pe_str pa_nil))))) pss_nil)
      (pss_one (ps_ret (pe_tup (pa_cons pe_str (pa_cons (pe_ix ix_list (pv 2) (pe_bm PySem.F.plainAttrs_list PySem.F.slot_list_index PySem.F.type_list_index mt_index (pv 1) (pa_cons pe_bl pa_nil)) (fun _ _ => rfl)) pa_nil)))))))), ?_⟩
    have two : ∀ n : Nat, n ≤ 10 → n ≤ sizeLine := fun n h => Nat.le_trans h (by decide)
    have one : ∀ {a : Addr} {u : Value}, RelV (.ref a) u → u = .ref a := fun h => h
    refine ⟨_, rfl, _, _, _, rfl, fun u h => h, O.k0, _, rfl, _, _, _, rfl, fun u h => h, O.k1, _, rfl, _, _, _, rfl, fun u h => h, O.k2, two 3 (by decide), fun a na => ?_⟩
    have s1 := same_upd (o := .lst [.bl (decide (0 = i)), .bl (decide (1 = i)), .bl (decide (2 = i))]) (Same.refl H) na
    have ha : upd H a (.lst [.bl (decide (0 = i)), .bl (decide (1 = i)), .bl (decide (2 = i))]) a = some (.lst [.bl (decide (0 = i)), .bl (decide (1 = i)), .bl (decide (2 = i))]) := upd_same
    refine ⟨_, rfl, _, rfl, _, _, _, rfl, fun u h => h, O.k3, _, rfl, _, _, _, rfl, fun u h => h, O.k4, _, rfl, _, _, _, rfl, fun u h => h, O.k5, two 3 (by decide), fun b nb => ?_⟩
    have s2 := same_upd (o := .lst [.bl (decide (3 = i)), .bl (decide (4 = i)), .bl (decide (5 = i))]) s1 nb
    refine ⟨a, b, _, _, rfl, rfl, (upd_ne (ne_of_none ha nb)).trans ha, upd_same, two 6 (by decide), fun c nc => ?_⟩
    have s3 := same_upd (o := .lst ([0, 1, 2, 3, 4, 5].map fun j => V.bl (decide (j = i)))) s2 nc
    have hc3 : upd (upd (upd H a (.lst [.bl (decide (0 = i)), .bl (decide (1 = i)), .bl (decide (2 = i))])) b (.lst [.bl (decide (3 = i)), .bl (decide (4 = i)), .bl (decide (5 = i))])) c (.lst ([0, 1, 2, 3, 4, 5].map fun j => V.bl (decide (j = i)))) c = some (.lst ([0, 1, 2, 3, 4, 5].map fun j => V.bl (decide (j = i)))) := upd_same
    refine ⟨two 6 (by decide), fun d nd' => ?_⟩
    have s4 := same_upd (o := .lst (termNames.map V.str)) s3 nd'
    have hc4 : upd (upd (upd (upd H a (.lst [.bl (decide (0 = i)), .bl (decide (1 = i)), .bl (decide (2 = i))])) b (.lst [.bl (decide (3 = i)), .bl (decide (4 = i)), .bl (decide (5 = i))])) c (.lst ([0, 1, 2, 3, 4, 5].map fun j => V.bl (decide (j = i))))) d (.lst (termNames.map V.str)) c = some (.lst (([0, 1, 2, 3, 4, 5].map fun j => decide (j = i)).map V.bl)) := (upd_ne (ne_of_none hc3 nd')).trans hc3
    have hd4 : upd (upd (upd (upd H a (.lst [.bl (decide (0 = i)), .bl (decide (1 = i)), .bl (decide (2 = i))])) b (.lst [.bl (decide (3 = i)), .bl (decide (4 = i)), .bl (decide (5 = i))])) c (.lst ([0, 1, 2, 3, 4, 5].map fun j => V.bl (decide (j = i))))) d (.lst (termNames.map V.str)) d = some (.lst (termNames.map V.str)) := upd_same
    show tSeq _ _ _ _ (upd (upd (upd (upd H a (.lst [.bl (decide (0 = i)), .bl (decide (1 = i)), .bl (decide (2 = i))])) b (.lst [.bl (decide (3 = i)), .bl (decide (4 = i)), .bl (decide (5 = i))])) c (.lst ([0, 1, 2, 3, 4, 5].map fun j => V.bl (decide (j = i))))) d (.lst (termNames.map V.str)))
    generalize upd (upd (upd (upd H a (.lst [.bl (decide (0 = i)), .bl (decide (1 = i)), .bl (decide (2 = i))])) b (.lst [.bl (decide (3 = i)), .bl (decide (4 = i)), .bl (decide (5 = i))])) c (.lst ([0, 1, 2, 3, 4, 5].map fun j => V.bl (decide (j = i))))) d (.lst (termNames.map V.str)) = H4 at s4 hc4 hd4 ⊢
    clear s1 s2 s3 hc3 ha
    -- the sum is 1
    refine ⟨c, _, rfl, SqL.of hc4, fun e ne => ?_⟩
    have s5 := same_upd (o := .lst ((([0, 1, 2, 3, 4, 5].map fun j => decide (j = i)).map b01).map V.int)) s4 ne
    have hc5 : upd H4 e (.lst ((([0, 1, 2, 3, 4, 5].map fun j => decide (j = i)).map b01).map V.int)) c = some (.lst (([0, 1, 2, 3, 4, 5].map fun j => decide (j = i)).map V.bl)) := (upd_ne (ne_of_none hc4 ne)).trans hc4
    have hd5 : upd H4 e (.lst ((([0, 1, 2, 3, 4, 5].map fun j => decide (j = i)).map b01).map V.int)) d = some (.lst (termNames.map V.str)) := (upd_ne (ne_of_none hd4 ne)).trans hd4
    have hsum : (([0, 1, 2, 3, 4, 5].map fun j => decide (j = i)).map b01).sum = 1 := by
      have hi := O.lt
      have all : ∀ i < 6, (([0, 1, 2, 3, 4, 5].map fun j => decide (j = i)).map b01).sum = 1 := by decide
      exact all i hi
    refine ⟨e, _, rfl, SqL.of upd_same, ?_⟩
    rw [hsum]
    refine ⟨rfl, _, rfl, iteF ?_⟩
    refine ⟨_, rfl, _, _, _, rfl, fun u h => h, O.kv, _, rfl, iteF ?_⟩
    -- the name
    have hl := O.lt
    have hidx : ([0, 1, 2, 3, 4, 5].map fun j => decide (j = i))[i]? = some true := by
      have all : ∀ i < 6, ([0, 1, 2, 3, 4, 5].map fun j => decide (j = i))[i]? = some true := by decide
      exact all i hl
    have hbef : ∀ m, m < i → ∀ b, ([0, 1, 2, 3, 4, 5].map fun j => decide (j = i))[m]? = some b → b = false := by
      have all : ∀ i < 6, ∀ m < i, ([0, 1, 2, 3, 4, 5].map fun j => decide (j = i))[m]? = some false := by decide
      intro m hm b hb
      rw [all i hl m hm] at hb
      exact (Option.some.inj hb).symm
    refine ⟨_, rfl, _, rfl, .inl ⟨rfl, _, SqL.of hc5⟩, c, _, .bl true, i, .bl true, rfl, rfl, SqL.of hc5, rfl, ?_, ?_, rfl, ?_, ?_⟩
    · simp [flatV]
    · rw [List.getElem?_map, hidx]
      rfl
    · intro m z' hm hz'
      rw [List.getElem?_map] at hz'
      cases e1 : ([0, 1, 2, 3, 4, 5].map fun j => decide (j = i))[m]? with
      | none =>
        rw [e1] at hz'
        cases hz'
      | some b =>
        rw [e1] at hz'
        have e2 := hbef m hm b e1
        have e3 : V.bl b = z' := Option.some.inj hz'
        rw [← e3, e2]
        rfl
    · have hz2 : (termNames.map V.str)[i]? = some (.str z) := by rw [List.getElem?_map, hzi]; rfl
      refine ⟨d, _, _, _, rfl, rfl, SqL.of hd5, atI_nat hz2, two 2 (by decide), fun t nt => ?_⟩
      exact k t _ (same_upd s5 nt) upd_same
end
end FC
set_option Elab.async false
set_option linter.all false
set_option maxRecDepth 100000
set_option maxHeartbeats 1000000
/-! _law_told(lambda: ..): the lambda's exceptions bear no context. -/
namespace FC
open PySem PySem.Spec PyProof.Rows L2
/-- another wish of what leaves the code -/
theorem scTold : FnScope ["_law_deed", "_law_e"] ["_law_deed"] (defScope sTold) := ⟨rfl, rfl, rfl, by decide +kernel, rfl, by decide +kernel, by decide +kernel⟩
/-- what is wanted of an exception of the lambda: its name is told -/
def wishE (K : PySem.W.Frag) (CE c0 c1 c2 c3 c4 c5 : Addr) (Q : VK) : XK := fun cls d H => ∃ (D : Addr) (i : Nat) (z : Str), cls = .ref D ∧ d = Option.none ∧ PySem.W.exmOne K (.ref D) (.ref CE) = some true ∧ OneT K D i c0 c1 c2 c3 c4 c5 ∧ termNames[i]? = some z ∧
  ∀ t H', Same H H' → H' t = some (.tup [.str "error", .str z]) → Q (.ref t) H'
/-- _law_told(lambda: body), body's reading t -/
def tTold (K : PySem.W.Frag) (T : List (Addr × Str)) (CE c0 c1 c2 c3 c4 c5 : Addr) (t : XK → TE) : TE := fun σ H Q => LamX.Tabs T H ∧ ∀ H1, LamX.ExtN H H1 → LamX.Tabs T H1 → t (wishE K CE c0 c1 c2 c3 c4 c5 Q) σ H1 Q
section
variable {X : Cx}
theorem pe_told {T : List (Addr × Str)} {g c P f2 CE c0 c1 c2 c3 c4 c5 : Addr} {fdg fd2 : FuncData} {k : Nat} {params : Arguments} {body : Expr} {scope : Scope} {t : XK → TE} {p lpos pos : Pos}
    (Fg : Fun X.K "_law_told" "_law_told" sTold g fdg) (bg : Binds X.K fdg ["_law_deed"] []) (mg : X.mg "_law_told" = some (.ref g)) (hg : Gl X "_law_told")
    (F2 : FnP X.prog X.w X.K X.mg X.base 1 f2 fd2 ["_law_e"] (spTerm X.K c0 c1 c2 c3 c4 c5)) (m2 : X.mg "_law_term" = some (.ref f2)) (k2 : PySem.W.keepIn X.K (.ref f2) = true) (b2 : Binds X.K fd2 ["_law_e"] []) (mE : X.mg "ChainError" = some (.ref CE))
    (TB : LamX.TabB X.base X.mg c P) (hcode : X.env.code = .ref c) (hmT : (P, X.env.qual ++ "<lambda>") ∈ T) (hu : ∀ p ∈ T, p.1 = P → p.2 = X.env.qual ++ "<lambda>") (hr : Room (k + 3) X.A) (L : LamX.LamS X.env.scope scope) (hdef : defaultsOf params X.env = ([], []))
    (bind : ∀ (q : Str) (cl : List (Str × Addr)) (pm cv ctv : Value), bindArgs (PySem.W.kla_fn "<lambda>" q params body scope cl pm cv ctv) ⟨[], []⟩ = pure [])
    (hbody : ∀ (A : Around) (out : List Env) (s : Shared) (H : Hp) (E : XK) (f c : Addr), Room (k + 1) (A.deeper (LamX.lamEnv X scope s.heap.objs.size f c)) → PE (lamN X A out s H E scope f c) body (t E)) :
    PE X (.Call (.Name "_law_told" p) [.Lambda params body scope lpos] [] pos) (tTold X.K T CE c0 c1 c2 c3 c4 c5 t) := by
  refine ⟨fun pins s σ H Q I h => ?_⟩
  obtain ⟨hT, h⟩ := h
  refine wpAny_Call_Name_kw (ld_glob I hg mg ?_ (by decide))
  refine PySem.W.callWith_K (h₀ := X.base) I.ok.mod.kin Fg.kp ?_ (by rfl) (by rfl)
  show wpAny _ _ (spliced ((false, eval (.Lambda params body scope lpos) X.env) :: backTo pos (starEach [] X.env))) _ _ s
  refine Calls.spliced_cons (LamX.lam_make2 I TB hcode hmT hu hT hdef (L.has I.ok) fun f c' pm' ctv H1 s1 I1 eN T1 hf hfn hfr hco => ?_)
  refine Calls.spliced_nil ⟨I1.kIn, ?_⟩
  have told := h H1 eN T1
  obtain ⟨oc, od, kV, doc, pm, an, cdv, ct, osl, rfl, lk, hcd⟩ := Fg.ex
  have rc : codeAny (model X.prog X.w) X.A (.call (.ref g) ⟨[.ref f], []⟩) (CR CX0 X.stack X.prog X.w H1 s1 Q E0) s1 := by
    refine LamX.run_ofS (N := ["_law_deed", "_law_e"]) (ps := ["_law_deed"]) (us := [.ref f]) (vs := [.ref f]) (CX := CX0) lk hcd scTold hr I1.env0 (bg s1 [.ref f] I1.kIn rfl) (.cons rfl .nil) rfl fun hr' => ?_
    have nd := scTold.nd
    -- deed()
    have act : ∀ (W : WX) (pn : List (Addr × Obj)) (xe : Value → Shared → Prop) (p1 p2 : Pos), L2N.Takes ((cxOf CX0 X.prog X.w X.K X.mg X.base ["_law_deed", "_law_e"] "_law_told" (defScope sTold) g cdv X.A X.stack s1 H1 E0).tr pn xe) W → (∀ cls d σ' H', wishE X.K CE c0 c1 c2 c3 c4 c5 Q cls d H' → W cls d σ' H') →
        PE ((cxOf CX0 X.prog X.w X.K X.mg X.base ["_law_deed", "_law_e"] "_law_told" (defScope sTold) g cdv X.A X.stack s1 H1 E0).tr pn xe) (.Call (.Name "_law_deed" p1) [] [] p2)
          (fun σZ HZ Q' => σZ[0]? = some (some (.ref f)) ∧ HZ c' = some (LamX.CodeO c' (X.env.qual ++ "<lambda>")) ∧ t (wishE X.K CE c0 c1 c2 c3 c4 c5 Q) σ HZ Q') := by
      intro W pn xe p1 p2 tk hW
      refine ⟨fun pinsZ sZ σZ HZ Q' IZ h' => ?_⟩
      obtain ⟨h0, hcZ, ht⟩ := h'
      refine wpAny_Call_Name_kw (thn ((pv (pos := p1) 0).run pinsZ sZ σZ HZ (fun v H2 => v = .ref f ∧ H2 = HZ) IZ ⟨.ref f, h0, rfl, rfl⟩) fun u s2 ⟨v, H2, I2, r2, e1, e2⟩ => ?_)
      subst e1 e2
      obtain rfl : u = Value.ref f := r2
      have here := I2.base.keep f _ hf hfn hfr (fun z => nomatch (show f ∈ ([] : List Addr) from z))
      refine PySem.W.callWith_F0 ⟨_, _, _, _, here⟩ ?_
      have un : Un (frs X.stack) [] H1 H2 s1.heap s2.heap := I2.base
      have go := lam_run (X := X) (env := envOfC "_law_told" (defScope sTold) s1.heap.objs.size g cdv) (A := X.A.deeper (envOfC "_law_told" (defScope sTold) s1.heap.objs.size g cdv)) (E := wishE X.K CE c0 c1 c2 c3 c4 c5 Q) (s1 := s2) (HZ := H2) (Q := Q') I1 L here (bind _ _ _ _ _)
        I2.env0 I2.nolimit un hr' hcZ (fun A out s H hr2 => hbody A out s H _ f c' hr2) ht
      refine wpAny_call (codeAny_mono go fun r s3 hq => ?_)
      cases r with
      | error e => exact L2N.passes_call tk hW pinsZ σZ H2 s2 e s3 I2 hq
      | ok fl =>
        cases fl with
        | ret u => exact I2.after hq
        | next => exact False.elim hq
        | brk => exact False.elim hq
        | cont => exact False.elim hq
    refine ⟨_, (pss_one (L2N.ps_try_as (X := (cxOf CX0 X.prog X.w X.K X.mg X.base ["_law_deed", "_law_e"] "_law_told" (defScope sTold) g cdv X.A X.stack s1 H1 E0)) (i := 1) (c := .ref CE)
        (tb := fun W D σZ HZ => (∀ cls d σ' H', wishE X.K CE c0 c1 c2 c3 c4 c5 Q cls d H' → W cls d σ' H') ∧ σZ[0]? = some (some (.ref f)) ∧ HZ c' = some (LamX.CodeO c' (X.env.qual ++ "<lambda>")) ∧ t (wishE X.K CE c0 c1 c2 c3 c4 c5 Q) σ HZ D.rt)
        (ts := fun a cls d D σZ HZ => (∃ σ0 : L2.St, σZ = σ0.set 1 (some (.ref a))) ∧ ∃ (Dc : Addr) (i : Nat) (z : Str), cls = .ref Dc ∧ d = Option.none ∧ OneT X.K Dc i c0 c1 c2 c3 c4 c5 ∧ termNames[i]? = some z ∧ ∀ t H', Same HZ H' → H' t = some (.tup [.str "error", .str z]) → D.rt (.ref t) H')
        (Wout := fun _ _ _ _ => False) rfl rfl nd rfl rfl ⟨rfl, by decide, .inl mE⟩ takes0N (fun W pn xe tk _ => ⟨fun pinsB sB σB HB D IB hB => ?_⟩) (fun a oe cls d pn hz hf => ⟨fun pinsB sB σB HB D IB hB => ?_⟩))), ?_⟩
    · obtain ⟨hW, h0, h1, h2⟩ := hB
      exact (pss_one (ps_ret (act W pn xe _ _ tk hW))).run pinsB sB σB HB D IB ⟨h0, h1, h2⟩
    · obtain ⟨⟨σ0, e0⟩, Dc, i, z, rfl, rfl, O, hzi, k⟩ := hB
      have hlen := IB.len
      rw [e0, List.length_set] at hlen
      have hlen : σ0.length = 2 := hlen
      have h1 : σB[1]? = some (some (.ref a)) := by
        rw [e0, List.getElem?_set_self (by omega)]
      obtain ⟨us, hus⟩ := hf
      refine (pss_one (ps_ret (pe_callP (X := (cxOf CX0 X.prog X.w X.K X.mg X.base ["_law_deed", "_law_e"] "_law_told" (defScope sTold) g cdv X.A X.stack s1 H1 E0).suite a ((a, oe) :: pn)) (p := (a, oe)) F2 ⟨?_, ?_⟩ ⟨rfl, us, hus, hz.2.2 us hus⟩ List.mem_cons_self (by rfl) m2 k2 b2 (pa_cons (pv 1) pa_nil)))).run pinsB sB σB HB D IB ⟨.ref a, h1, Dc, i, z, rfl, hz.zc, ⟨us, hus⟩, O, hzi, k⟩
      · have := hr'.dp
        show (X.A.deeper (envOfC "_law_told" (defScope sTold) s1.heap.objs.size g cdv)).depth + 3 * 1 + 5 < _
        omega
      · have := hr'.un
        show (X.A.deeper (envOfC "_law_told" (defScope sTold) s1.heap.objs.size g cdv)).units + 16 * 1 + 200 < _
        omega
    · refine ⟨fun cls d σ' H' hw => ?_, rfl, hco, told⟩
      obtain ⟨Dc, i, z, rfl, rfl, em, O, hzi, k⟩ := hw
      exact ⟨true, em, fun _ a _ => ⟨⟨σ', rfl⟩, Dc, i, z, rfl, rfl, O, hzi, k⟩, fun z => by cases z⟩
  refine wpAny_call (codeAny_mono rc fun r s2 hq => ?_)
  cases r with
  | error e => exact (show False from hq).elim
  | ok fl =>
    cases fl with
    | ret u => exact I1.after hq
    | next => exact False.elim hq
    | brk => exact False.elim hq
    | cont => exact False.elim hq
end
end FC
set_option Elab.async false
set_option linter.all false
set_option maxRecDepth 100000
set_option maxHeartbeats 4000000
/-! The program's run. -/
namespace FC
open PySem L2
/-- a row through a chain -/
def spRunOn (K : PySem.W.Frag) : Sp := fun vs H Q _ => ∃ (c a r : Addr) (ps : List Stp) (pre row : List Int), vs = [.ref c, .ref a, .ref r] ∧ StpsAt K H c ps ∧ (∀ p ∈ ps, p.ok) ∧ ps.length ≤ 4 ∧ StateAt K H a ps pre ∧ SqT K H r (row.map V.int) ∧ row.length ≤ 200 ∧ pre.length ≤ 200 ∧
  ∀ (t g a' : Addr) H', Same H H' → SqT K H' t [.ref g, .ref a'] → (∃ out, SqT K H' g (out.map V.int) ∧ runM ps (pre ++ row) = runM ps pre ++ out) → StateAt K H' a' ps (pre ++ row) → Q (.ref t) H'
section
variable {P : Program} {w : World} {K : PySem.W.Frag} {mg : Str → Option Value} {base : Heap}
abbrev NRo : List Str := ["chain", "state", "row", "out", "now", "number", "given"]
theorem scRunOn : FnScope NRo ["chain", "state", "row"] (defScope sRunOn) := ⟨rfl, rfl, rfl, by decide +kernel, rfl, by decide +kernel, by decide +kernel⟩
theorem ok_runOn {f : Addr} {fd : FuncData} (F : Fun K "run_on" "run_on" sRunOn f fd) (T : Blt mg) (CA : Cal P w K mg base CX0 3 "advance" ["chain", "state", "number"] (spAdv K)) : FnOk P w K mg base CX0 4 f fd ["chain", "state", "row"] (spRunOn K) := by
  refine F.ok scRunOn (fun vs H Q E h => ?_) (fun cdv A outer s H vs Q E hr h => ?_)
  · obtain ⟨c, a, r, ps, pre, row, rfl, _⟩ := h
    rfl
  · obtain ⟨c, a, r, ps, pre, row, rfl, hc, hok, hl, ha, hrow, hlr, hlp, k⟩ := h
    have nd := scRunOn.nd
    refine ⟨_, pss_cons (ps_set (i := 3) nd rfl (Or.inl rfl) (pe_lst pa_nil))
      (pss_cons (ps_set (i := 4) nd rfl (Or.inl rfl) (pv 1))
      (pss_cons (ps_for PassesOwn.never rfl (pi_tup (pv 2)) (pg_name (i := 5) nd rfl (Or.inl rfl))
        (pss_cons (ps_asg (pe_cal CA hr pass0 (pa_cons (pv 0) (pa_cons (pv 4) (pa_cons (pv 5) pa_nil)))) (pg_tup rfl (pgs_cons (pg_name (i := 6) nd rfl (Or.inl rfl)) (pgs_cons (pg_name (i := 4) nd rfl (Or.inl rfl)) pgs_nil))))
        (pss_one (ps_expr (pe_bm PySem.F.plainAttrs_list PySem.F.slot_list_extend PySem.F.type_list_extend mt_extT (pv 3) (pa_cons (pv 6) pa_nil))))))
      (pss_one (ps_ret (pe_tup (pa_cons (pe_callTy call_tuple_of (by rfl) T.tuple (by decide +kernel) (pa_cons (pv 3) pa_nil)) (pa_cons (pv 4) pa_nil))))))), ?_⟩
    refine ⟨(by show 0 ≤ sizeLine; decide), fun o no => ?_⟩
    have s0 := same_upd (o := .lst []) (Same.refl H) no
    have e0 : upd H o (.lst []) o = some (.lst []) := upd_same
    generalize upd H o (.lst []) = H1 at s0 e0 ⊢
    refine ⟨_, rfl, _, rfl, r, rfl, ⟨_, sqt_same s0 hrow⟩, for_tup (K := K) (a := r) (xs := row.map V.int) (fun i σ H3 => ∃ (st : Addr) (out : List Int) (v5 v6 : Option V), σ = [some (.ref c), some (.ref a), some (.ref r), some (.ref o), some (.ref st), v5, v6] ∧ Same H H3 ∧ H3 o = some (.lst (out.map V.int)) ∧
        runM ps (pre ++ row.take i) = runM ps pre ++ out ∧ StateAt K H3 st ps (pre ++ row.take i))
      ⟨a, [], none, none, rfl, s0, e0, by simp, by rw [List.take_zero, List.append_nil]; exact ha.same s0⟩ (fun i σ H3 _ ⟨_, _, _, _, _, s3, _⟩ => sqt_same s3 hrow) ?_ ?_⟩
    · rintro i v σ H3 hi ⟨st, out, v5, v6, rfl, s3, eo, er, hst⟩
      obtain ⟨x, hx, rfl⟩ : ∃ x, row[i]? = some x ∧ v = .int x := by
        rw [List.getElem?_map] at hi
        obtain ⟨x, h1, h2⟩ := Option.map_eq_some_iff.mp hi
        exact ⟨x, h1, h2.symm⟩
      have hil := get_lt hx
      have et : row.take (i + 1) = row.take i ++ [x] := take_succ_get hx
      refine ⟨_, rfl, _, rfl, _, rfl, c, st, x, ps, pre ++ row.take i, rfl, stps_same hc s3, hok, hl, hst, fun t g a' H4 s4 ht hg ha' => ?_⟩
      have eo4 := s4 _ _ eo
      refine ⟨t, _, rfl, ht, rfl, _, _, rfl, _, _, rfl, rfl, ?_⟩
      have er2 : runM ps (pre ++ row.take (i + 1)) = runM ps pre ++ (out ++ newM ps (pre ++ row.take i) [x]) := by
        rw [et, ← List.append_assoc, run_snoc, er, List.append_assoc]
      have hlen : (out.map V.int).length + ((newM ps (pre ++ row.take i) [x]).map V.int).length ≤ sizeLine := by
        have h1 := run_len ps (pre ++ row.take (i + 1))
        have h2 : 2 ^ ps.length ≤ 2 ^ 4 := Nat.pow_le_pow_right (by decide) hl
        have h3 : (pre ++ row.take (i + 1)).length ≤ 400 := by rw [List.length_append, List.length_take]; omega
        have h4 : 2 ^ ps.length * (pre ++ row.take (i + 1)).length ≤ 2 ^ 4 * 400 := Nat.mul_le_mul h2 h3
        rw [er2, List.length_append, List.length_append] at h1
        have hsl : 8000 < sizeLine := by decide
        rw [List.length_map, List.length_map]
        omega
      refine ⟨_, rfl, .inl ⟨rfl, _, SqL.of eo4⟩, _, rfl, o, g, _, _, rfl, rfl, eo4, hg, hlen, ?_⟩
      refine ⟨a', out ++ newM ps (pre ++ row.take i) [x], _, _, rfl, ?_, ?_, er2, ?_⟩
      · intro b1 o1 hb1
        rw [upd_ne (ne_of_none hb1 no)]
        exact s4 _ _ (s3 _ _ hb1)
      · rw [upd_same, List.map_append]
      · obtain ⟨xs, z1, z2, z3⟩ := ha'
        rw [et, ← List.append_assoc]
        refine ⟨xs, sqt_lst eo4 z1, z2, fun j y p hy hp => ?_⟩
        obtain ⟨b, e1, e2⟩ := z3 j y p hy hp
        exact ⟨b, e1, sqt_lst eo4 e2⟩
    · rintro σ H3 ⟨st, out, v5, v6, rfl, s3, eo, er, hst⟩
      rw [List.length_map, List.take_length] at er hst
      refine ⟨_, rfl, o, _, rfl, .inl ⟨SqL.of eo, fun g ng => ⟨_, rfl, (by show 2 ≤ sizeLine; decide), fun t nt => ?_⟩⟩⟩
      have s4 := same_upd (o := .tup (out.map V.int)) (Same.refl H3) ng
      have s6 := same_upd (o := .tup [V.ref g, .ref st]) (Same.refl _) nt
      exact k t g st _ (Same.trans (Same.trans s3 s4) s6) sqt_new ⟨out, sqt_same s6 sqt_new, er⟩ ((hst.same s4).same s6)
end
end FC
set_option Elab.async false
set_option linter.all false
set_option maxRecDepth 100000
set_option maxHeartbeats 4000000
/-! The program's checks of rows, and its run. -/
namespace FC
open PySem L2
def spCheckRow (K : PySem.W.Frag) (C : Addr) : Sp := fun vs H Q E => ∃ y ro, vs = [y] ∧ StepV K H y ro ∧ ∀ H', Same H H' → (rowOkO ro = true → Q .non H') ∧ (rowOkO ro = false → E (.ref C) none H')
section
variable {P : Program} {w : World} {K : PySem.W.Frag} {mg : Str → Option Value} {base : Heap}
theorem scCheckRow : FnScope ["value", "number"] ["value"] (defScope sCheckRow) := ⟨rfl, rfl, rfl, by decide +kernel, rfl, by decide +kernel, by decide +kernel⟩
theorem ok_checkRow {f C : Addr} {tM : Tok} {fd : FuncData} (F : Fun K "check_row" "check_row" sCheckRow f fd) (T : Blt mg) (CN : Cal P w K mg base CX0 2 "is_number" ["value"] (spIsNumber K)) (mM : mg "MOST_NUMBERS" = some (.int 60 tM)) (X : ExcT K mg "InvalidRow" C) :
    FnOk P w K mg base (L2N.CX P w) 4 f fd ["value"] (spCheckRow K C) := by
  refine okN F scCheckRow (fun vs H Q E h => ?_) (fun cdv A outer s H vs Q E hr h => ?_)
  · obtain ⟨x, o, rfl, _⟩ := h
    rfl
  · obtain ⟨y, ro, rfl, hy, k⟩ := h
    have nd := scCheckRow.nd
    have hr2 : Room 2 _ := hr.mono (by decide)
    refine ⟨_, pss_cons (ps_if (PW.pt (pw_or (pt_not (pt_val (pe_callB call_isi (by rfl) T.isi (by decide +kernel) (pa_cons (pv 0) (pa_cons (pe_bltn (v := .ty "tuple") (by rfl) T.tuple (by decide +kernel) rfl) pa_nil)))))
          (pw_or1 (pt_cmp (pc_gt (pe_callB call_len (by rfl) T.len PySem.boot_len (pa_cons (pv 0) pa_nil)) (pe_glob (v := .int 60) rfl mM ⟨_, rfl⟩))))))
        (pss_one (L2N.ps_raise rfl (L2N.takes_of rfl rfl rfl rfl) (L2N.pmk_own PySem.F.excBase_ValueError X.q X.gC X.kC (raises_own X.bP X.tP) rfl))) pss_nil)
      (pss_one (ps_if (pt_not (pt_val (pe_callB (cr_all rfl) (by rfl) T.all (by decide +kernel) (pa_cons
          (pe_lc (own := [("number", 1)]) (g := gName 1) (by rfl) nd (pi_tup (pv 0)) (blkOk_by (own := [("number", 1)]) (N := ["value", "number"]) (sc := defScope sCheckRow) (by decide +kernel)) (fun _ _ _ _ _ => pg_name (i := 1) nd rfl (Or.inl rfl))
            (fun _ _ _ _ _ => pts_nil) (fun _ _ _ _ _ => pe_cal CN hr2 pass0 (pa_cons (pv 1) pa_nil))) pa_nil))))
        (pss_one (L2N.ps_raise rfl (L2N.takes_of rfl rfl rfl rfl) (L2N.pmk_own PySem.F.excBase_ValueError X.q X.gC X.kC (raises_own X.bP X.tP) rfl))) pss_nil)), ?_⟩
    cases ro with
    | none =>
      obtain ⟨t, ht, hnt, hty⟩ := hy
      refine ⟨_, rfl, _, _, _, _, _, rfl, .ty _, hty, kit_ty (kit_tuple t ht), _, rfl, ?_⟩
      rw [show (t == "tuple") = false from beq_eq_false_iff_ne.mpr hnt]
      exact iteT (iteT ((k H (Same.refl H)).2 rfl))
    | some xs =>
      obtain ⟨a, rfl, ha, hn⟩ := hy
      refine ⟨_, rfl, _, _, _, _, _, rfl, .ty _, ty_tup ha, kit_ty (kit_tuple "tuple" (by decide)), _, rfl, iteF ?_⟩
      refine ⟨_, rfl, _, xs.length, rfl, .inr ⟨_, ha, rfl⟩, _, _, rfl, rfl, _, rfl, ?_⟩
      refine ite2 (fun hgt => ?_) (fun hgt => ?_)
      · have hgt : (60 : Int) < (xs.length : Int) := of_decide_eq_true hgt
        refine (k H (Same.refl H)).2 ?_
        show (decide (xs.length ≤ 60) && xs.all rowOkV) = false
        rw [decide_eq_false (by omega)]
        rfl
      · have hgt : xs.length ≤ 60 := by
          have : ¬ (60 : Int) < (xs.length : Int) := fun z => hgt (decide_eq_true z)
          omega
        refine ⟨_, rfl, a, rfl, ⟨_, ha⟩, fun D nD => ?_⟩
        have sD : Same H (upd H D (.lst [])) := same_upd (Same.refl H) nD
        refine lc_tup (K := K) (a := a) (xs := xs) (fun j H3 => H3 D = some (.lst (((xs.take j).map rowOkV).map V.bl)) ∧ Same H H3) ⟨upd_same, sD⟩ (fun j H3 _ ⟨_, s3⟩ => sqt_same s3 ha) ?_ ?_
        · rintro j y H3 hy ⟨hD, s3⟩
          have hj := get_lt hy
          refine ⟨rfl, ⟨_, rfl, y, rfl, (hn y (List.mem_of_getElem? hy)).same s3, fun H4 s4 => ⟨_, s4 _ _ hD, ?_, ?_, ?_⟩⟩⟩
          · rw [List.length_map, List.length_map, List.length_take]
            exact small1000 (by omega)
          · rw [upd_same, take_succ_get hy, List.map_append, List.map_append]
            rfl
          · intro q u hq
            have hqD : q ≠ D := fun z => by
              rw [z, nD] at hq
              cases hq
            rw [upd_ne hqD]
            exact s4 q u (s3 q u hq)
        · rintro H3 ⟨hD, s3⟩
          rw [List.take_length] at hD
          refine ⟨D, _, rfl, SqL.of hD, ?_⟩
          refine ⟨_, rfl, ?_⟩
          have ea : (xs.map rowOkV).all id = xs.all rowOkV := by
            rw [List.all_map]
            rfl
          rw [ea]
          have eo : rowOkO (some xs) = xs.all rowOkV := by
            show (decide (xs.length ≤ 60) && xs.all rowOkV) = _
            rw [decide_eq_true hgt]
            rfl
          rw [eo] at k
          cases hall : xs.all rowOkV with
          | false => exact iteT ((k H3 s3).2 hall)
          | true => exact iteF ((k H3 s3).1 hall)
theorem rows_of {xs : List V} (h : rowOkO (some xs) = true) : ∃ row : List Int, xs = row.map V.int ∧ row.length ≤ 60 := by
  have h : (decide (xs.length ≤ 60) && xs.all rowOkV) = true := h
  rw [Bool.and_eq_true, decide_eq_true_eq] at h
  obtain ⟨h1, h2⟩ := h
  have key : ∀ xs : List V, xs.all rowOkV = true → ∃ row : List Int, xs = row.map V.int := fun xs => by
    induction xs with
    | nil => exact fun _ => ⟨[], rfl⟩
    | cons x r ih =>
      intro h
      rw [List.all_cons, Bool.and_eq_true] at h
      obtain ⟨row, e⟩ := ih h.2
      cases x <;> first | exact ⟨_ :: row, by rw [e]; rfl⟩ | exact absurd h.1 Bool.false_ne_true
  obtain ⟨row, e⟩ := key xs h2
  exact ⟨row, e, by rw [e, List.length_map] at h1; exact h1⟩
theorem scRunP : FnScope ["chain", "row"] ["chain", "row"] (defScope sRunP) := ⟨rfl, rfl, rfl, by decide +kernel, rfl, by decide +kernel, by decide +kernel⟩
theorem ok_runP {f c0 c1 : Addr} {fd : FuncData} (F : Fun K "run" "run" sRunP f fd) (CK : Cal P w K mg base (L2N.CX P w) 5 "check_chain" ["value"] (spCheck K c0)) (CR : Cal P w K mg base (L2N.CX P w) 4 "check_row" ["value"] (spCheckRow K c1))
    (CS : Cal P w K mg base CX0 1 "start" ["chain"] (spStartP K)) (CO : Cal P w K mg base CX0 4 "run_on" ["chain", "state", "row"] (spRunOn K)) : FnOk P w K mg base (L2N.CX P w) 9 f fd ["chain", "row"] (spRunP K c0 c1) := by
  refine okN F scRunP (fun vs H Q E h => ?_) (fun cdv A outer s H vs Q E hr h => ?_)
  · obtain ⟨x, y, rfl, _⟩ := h
    rfl
  · obtain ⟨x, y, rfl, h⟩ := h
    have hr1 : Room 1 _ := hr.mono (by decide)
    have hr4 : Room 4 _ := hr.mono (by decide)
    have hr5 : Room 5 _ := hr.mono (by decide)
    refine ⟨_, pss_cons (ps_expr (pe_cal CK hr5 (L2N.passes_call (W := fun cls d _ H => E cls d H) (L2N.takes_of rfl rfl rfl rfl) (fun _ _ _ _ h => h)) (pa_cons (pv 0) pa_nil)))
      (pss_cons (ps_expr (pe_cal CR hr4 (L2N.passes_call (W := fun cls d _ H => E cls d H) (L2N.takes_of rfl rfl rfl rfl) (fun _ _ _ _ h => h)) (pa_cons (pv 1) pa_nil)))
      (pss_one (ps_ret (pe_ix (r := rIxT K) ix_tup (pe_cal CO hr4 pass0 (pa_cons (pv 0) (pa_cons (pe_cal CS hr1 pass0 (pa_cons (pv 0) pa_nil)) (pa_cons (pv 1) pa_nil)))) pe_int (fun _ _ => rfl))))), ?_⟩
    rcases h with ⟨b, ps, r, row, rfl, hca, hok, hcok, rfl, hrow, hrok, k⟩ | ⟨oo, hx, hf, k⟩ | ⟨oo, ro, hx, hf, hy, hrf, k⟩
    · refine ⟨_, rfl, .ref b, _, rfl, hca.v, fun H1 s1 => ⟨fun _ => ?_, fun z => ?_⟩⟩
      · refine ⟨_, rfl, .ref r, some (row.map V.int), rfl, ⟨r, rfl, sqt_same s1 hrow, fun y hy => by obtain ⟨i, _, rfl⟩ := List.mem_map.mp hy; exact Nice.int i⟩, fun H2 s2 => ⟨fun _ => ?_, fun z => ?_⟩⟩
        · have s12 := Same.trans s1 s2
          have hl4 : ps.length ≤ 4 := by
            have := chainOk_len hcok
            rw [List.length_map] at this
            exact this
          have hst := stps_at (hca.same s12)
          obtain ⟨row', er, hl60⟩ := rows_of hrok
          have hlr : row.length ≤ 60 := by
            have := congrArg List.length er
            rw [List.length_map, List.length_map] at this
            omega
          refine ⟨_, rfl, _, rfl, b, ps, rfl, hst, by omega, fun st H3 s3 hs3 => ⟨_, rfl, b, st, r, ps, [], row, rfl, stps_same hst s3, hok, hl4, hs3, sqt_same (Same.trans s12 s3) hrow, by omega, by decide, fun t g a' H4 s4 ht hg ha' => ?_⟩⟩
          refine ⟨t, _, 0, .ref g, rfl, rfl, ht, atI_nat (j := 0) rfl, ?_⟩
          obtain ⟨out, hg, eo⟩ := hg
          rw [List.nil_append, run_nil_row, List.nil_append] at eo
          rw [← eo] at hg
          exact k g H4 (Same.trans (Same.trans s12 s3) s4) hg
        · rw [hrok] at z; cases z
      · have e : chainOkO (some ((ps.map Stp.v).map some)) = true := (chainOkL_some _).trans hcok
        rw [e] at z; cases z
    · exact ⟨_, rfl, x, oo, rfl, hx, fun H1 s1 => ⟨fun z => (by rw [hf] at z; cases z), fun _ => k H1 s1⟩⟩
    · refine ⟨_, rfl, x, oo, rfl, hx, fun H1 s1 => ⟨fun _ => ?_, fun z => (by rw [hf] at z; cases z)⟩⟩
      have hy1 : StepV K H1 y ro := hy.same s1
      exact ⟨_, rfl, y, ro, rfl, hy1, fun H2 s2 => ⟨fun z => (by rw [hrf] at z; cases z), fun _ => k H2 (Same.trans s1 s2)⟩⟩
end
end FC
set_option Elab.async false
set_option linter.all false
set_option maxRecDepth 100000
set_option maxHeartbeats 4000000
/-! mix, of a chain and what is no row. -/
namespace FC
open PySem L2
def spMixE (K : PySem.W.Frag) (c0 c1 : Addr) : Sp := fun vs H Q E => ∃ x y, vs = [x, y] ∧ ∃ oo ro, ChainV K H x oo ∧ chainOkO oo = true ∧ StepV K H y ro ∧ rowOkO ro = false ∧ ∀ H', Same H H' → E (.ref c1) none H'
section
variable {P : Program} {w : World} {K : PySem.W.Frag} {mg : Str → Option Value} {base : Heap}
theorem scMix : FnScope ["chain", "row", "_", "state"] ["chain", "row"] (defScope sMix) := ⟨rfl, rfl, rfl, by decide +kernel, rfl, by decide +kernel, by decide +kernel⟩
theorem ok_mixE {f c0 c1 : Addr} {fd : FuncData} (F : Fun K "mix" "mix" sMix f fd) (CK : Cal P w K mg base (L2N.CX P w) 5 "check_chain" ["value"] (spCheck K c0)) (CR : Cal P w K mg base (L2N.CX P w) 4 "check_row" ["value"] (spCheckRow K c1)) : FnOk P w K mg base (L2N.CX P w) 9 f fd ["chain", "row"] (spMixE K c0 c1) := by
  refine okN F scMix (fun vs H Q E h => ?_) (fun cdv A outer s H vs Q E hr h => ?_)
  · obtain ⟨x, y, rfl, _⟩ := h
    rfl
  · obtain ⟨x, y, rfl, oo, ro, hx, hf, hy, hrf, k⟩ := h
    have hr4 : Room 4 _ := hr.mono (by decide)
    have hr5 : Room 5 _ := hr.mono (by decide)
    refine ⟨_, pss_cons (ps_expr (pe_cal CK hr5 (L2N.passes_call (W := fun cls d _ H => E cls d H) (L2N.takes_of rfl rfl rfl rfl) (fun _ _ _ _ h => h)) (pa_cons (pv 0) pa_nil)))
      (pss_cons (ps_expr (pe_cal CR hr4 (L2N.passes_call (W := fun cls d _ H => E cls d H) (L2N.takes_of rfl rfl rfl rfl) (fun _ _ _ _ h => h)) (pa_cons (pv 1) pa_nil))) pss_never), ?_⟩
    refine ⟨_, rfl, x, oo, rfl, hx, fun H1 s1 => ⟨fun _ => ?_, fun z => (by rw [hf] at z; cases z)⟩⟩
    have hy1 : StepV K H1 y ro := hy.same s1
    exact ⟨_, rfl, y, ro, rfl, hy1, fun H2 s2 => ⟨fun z => (by rw [hrf] at z; cases z), fun _ => k H2 (Same.trans s1 s2)⟩⟩
end
end FC
set_option Elab.async false
set_option linter.all false
set_option maxRecDepth 100000
set_option maxHeartbeats 4000000
namespace FC
open PySem L2
theorem sum_bound {ys : List Str} {m : Nat} (h : ∀ y ∈ ys, y.length ≤ m) : (ys.map (·.length)).sum ≤ m * ys.length := by
  induction ys with
  | nil => simp
  | cons y r ih =>
    have h1 := h y (by simp)
    have h2 := ih fun z hz => h z (List.mem_cons_of_mem _ hz)
    rw [List.map_cons, List.sum_cons, List.length_cons, Nat.mul_succ]
    omega
theorem part_len {ys : List V} (h : stepOk ys = true) : ∀ y ∈ ys.map partText, y.length ≤ 6 := by
  obtain ⟨name, ns, rfl, hn, hs, _⟩ := stepOk_shape h
  intro y hy
  obtain ⟨v, hv, rfl⟩ := List.mem_map.mp hy
  rcases List.mem_cons.mp hv with z | z
  · rw [z]
    exact (names_free _ hn).2.2
  · obtain ⟨n, hn', rfl⟩ := List.mem_map.mp z
    exact Nat.le_trans (num_back n (small_of (hs n hn'))).2.2.2 (by decide)
theorem stepText_len {ys : List V} (h : stepOk ys = true) : (stepText ys).length ≤ 100 := by
  have h1 := StrLaws.join_length_le " " (ys.map partText)
  have h2 := sum_bound (part_len h)
  obtain ⟨name, ns, rfl, hn, hs, hl⟩ := stepOk_shape h
  unfold stepText
  rw [TL.join_eq]
  have e : ((V.str name :: ns.map V.int).map partText).length ≤ 5 := by
    simp
    omega
  have e2 : (" " : Str).length = 1 := by decide +kernel
  rw [e2] at h1
  omega
theorem chainText_len {c : List (List V)} (h : chainOk c = true) : (chainText c).length ≤ 500 := by
  have h1 := StrLaws.join_length_le " | " (c.map stepText)
  have h2 : ((c.map stepText).map (·.length)).sum ≤ 100 * (c.map stepText).length := sum_bound fun y hy => by
    obtain ⟨ys, hy', rfl⟩ := List.mem_map.mp hy
    exact stepText_len (chainOk_steps h ys hy')
  have h3 := chainOk_len h
  unfold chainText
  rw [TL.join_eq]
  have e2 : (" | " : Str).length = 3 := by decide +kernel
  rw [e2] at h1
  rw [List.length_map] at h1 h2
  omega
def spStepText (K : PySem.W.Frag) : Sp := fun vs H Q _ => ∃ b ys, vs = [.ref b] ∧ SqT K H b ys ∧ stepOk ys = true ∧ ∀ H', Same H H' → Q (.str (stepText ys)) H'
/-- the text, or InvalidChain -/
def spFormat (K : PySem.W.Frag) (C : Addr) : Sp := fun vs H Q E => ∃ x oo, vs = [x] ∧ ChainV K H x oo ∧ ∀ H', Same H H' →
  (∀ cs, oo = some (cs.map some) → chainOk cs = true → Q (.str (chainText cs)) H') ∧ (chainOkO oo = false → E (.ref C) none H')
theorem chainOkO_true {oo : Option (List (Option (List V)))} (h : chainOkO oo = true) : ∃ cs, oo = some (cs.map some) ∧ chainOk cs = true := by
  cases oo with
  | none => cases h
  | some os =>
    have h : chainOkL os = true := h
    have h2 := h
    unfold chainOkL at h2
    rw [Bool.and_eq_true, Bool.and_eq_true] at h2
    have e := all_somes h2.2.1
    refine ⟨os.filterMap id, by rw [← e], ?_⟩
    rw [← chainOkL_some, ← e]
    exact h
end FC
set_option Elab.async false
set_option linter.all false
set_option maxRecDepth 100000
set_option maxHeartbeats 4000000
/-! Targets with a star: the first item and a new list of the others. -/
namespace FC
open PySem PySem.Spec PyProof.Rows L2
section
variable {prog : Program} {w : World} {A : Around} {E : Value → Shared → Prop} {s : Shared}
/-- what a list's iterator has still to give, from the place k on -/
theorem list_from {it l : Addr} {items : Array Value} {k : Nat} (calm : A.handled = none) (apart : l ≠ it) (hk : k ≤ items.size) :
    WalksS prog w A it [it, l] [it] (fun a b => a = b) (items.size - k) (fun i v => items[k + i]? = some v) (fun i s => s.heap.IsListIter it l (k + i) ∧ s.heap.IsList l items) where
  sub := fun b hb => by
    rw [List.mem_singleton.mp hb]
    simp
  grefl := fun _ => rfl
  gtrans := fun _ _ _ p q => p.trans q
  frame := fun i s h' tk st _ keep => by
    obtain ⟨⟨o, a1, a2, a3⟩, ⟨u, b1, b2⟩⟩ := st
    exact ⟨⟨o, keep it (by simp) o a1, a2, a3⟩, ⟨u, keep l (by simp) u b1, b2⟩⟩
  item := fun i s Q E hi st go => by
    obtain ⟨p, q⟩ := st
    have lt : k + i < items.size := by omega
    refine wpAny_pyNext_list_item p q (x := items[k + i]) (by simp [lt]) fun h' p' same => ?_
    refine go _ _ (by simp [lt]) ⟨by rw [← Nat.add_assoc]; exact p', q.extBut same.extBut apart⟩ ⟨fun b o hb e => ?_, rfl, rfl, rfl, Nat.le_refl _⟩
    exact (same.2 b (fun z => hb (by simp [z]))).trans e
  done := fun s Q E st go => by
    obtain ⟨p, q⟩ := st
    refine wpAny_pyNext_list_end calm p q (by simp; omega) fun h' ext => go _ ⟨fun b o hb e => ?_, rfl, rfl, rfl, Nat.le_refl _⟩
    exact ext b o (fun z => hb (by simp [z])) e
  self := fun i s Q E st go => wpAny_pyIter_listiter st.1 go
/-- a, *b = a list with an item at least -/
theorem items_first {l : Addr} {x : Value} {xs : List Value} {Q : List Value → Shared → Prop} (calm : A.handled = none) (hl : s.heap.IsList l (x :: xs).toArray) (small : xs.length ≤ sizeLine)
    (go : ∀ (h' : Heap) (tk : Nat), (∀ c o, s.heap.get? c = some o → h'.get? c = some o) → Q [x, .ref h'.objs.size] { s with heap := h'.push { cls := .type "list", data := .seq xs.toArray }, toks := tk }) :
    wpAny (model prog w) A (unpackItems (.ref l) 2 (some 1)) Q E s := by
  have fresh : l ≠ s.heap.objs.size := by
    obtain ⟨o, ho, _⟩ := hl
    exact Nat.ne_of_lt (Heap.lt_size ho)
  unfold unpackItems notIterableAtAll
  refine wpAny_bind (wpAny_bind (wpAny_specialOf hl.typeIs slot_list_iter.lookup (wpAny_pure ?_)))
  simp only [Bool.false_eq_true, if_false]
  refine wpAny_bind (wpAny_holding (wpAny_pyIter_list hl ?_))
  refine wpAny_bind (wpAny_holding (PySem.W.kun_draw fresh 1 0 _ _ ⟨_, Heap.get?_push_size _ rfl, rfl, rfl⟩ (hl.push _) (by simp) fun h1 p1 same => ?_))
  have one : List.take 1 (List.drop 0 (x :: xs).toArray.toList) = [x] := by simp
  rw [one, if_neg (by simp)]
  have q1 : h1.IsList l (x :: xs).toArray := (hl.push _).extBut same.extBut fresh
  have k1 : ∀ c o, s.heap.get? c = some o → h1.get? c = some o := fun c o e => (same.2 c (Nat.ne_of_lt (Heap.lt_size e))).trans (Heap.get?_push_of_some _ e)
  have p1 : h1.IsListIter s.heap.objs.size l (1 + 0) := p1
  have W := list_from (prog := prog) (w := w) (A := A.in1) (k := 1) (items := (x :: xs).toArray) calm fresh (by simp)
  refine wpAny_bind (wpAny_holding (wpAny_collect_iter (T := "list_iterator") (.inr (.inr (.inl rfl))) W (fun i s st => st.1.typeIs) ⟨p1, q1⟩ ?_ (by simp) (fun s2 acc mv it => ?_) ?_))
  · intro b hb
    have hb : b = s.heap.objs.size ∨ b = l := by simpa using hb
    rcases hb with z | z
    · obtain ⟨o, e, _⟩ := p1
      rw [z]
      exact Heap.lt_size e
    · obtain ⟨o, e, _⟩ := q1
      rw [z]
      exact Heap.lt_size e
  · have ea : acc.toList = xs := by
      refine List.ext_getElem? fun j => ?_
      obtain ⟨e1, e2⟩ := it
      have e1 : acc.size = xs.length := by simpa using e1
      by_cases hj : j < acc.size
      · have a1 : acc[j]? = some acc[j] := by simp [hj]
        have a2 := e2 j _ a1
        have a2 : (x :: xs).toArray[1 + j]? = some acc[j] := a2
        rw [Nat.add_comm] at a2
        have a3 : xs[j]? = some acc[j] := by simpa using a2
        rw [a3]
        simpa using a1
      · have a1 : acc.toList[j]? = none := List.getElem?_eq_none (by simpa using hj)
        have a2 : xs[j]? = none := List.getElem?_eq_none (by omega)
        rw [a1, a2]
    rw [ea]
    simp only [List.length_singleton, Nat.sub_self, Nat.sub_zero]
    rw [if_neg (by simp)]
    refine wpAny_bind (wpAny_newObj_type ?_ (by show (List.take xs.length xs).length ≤ sizeLine; rw [List.take_length]; exact small))
    refine wpAny_pure ?_
    have k2 : ∀ c o, s.heap.get? c = some o → s2.heap.get? c = some o := fun c o e => mv.heap c o (fun z => Nat.ne_of_lt (Heap.lt_size e) (List.mem_singleton.mp z)) (k1 c o e)
    obtain ⟨h2, g2, d2, t2, o2⟩ := s2
    have eg : s.gens = g2 := mv.gens
    have ed : d2 = s.drawn := mv.drawn
    have eo : o2 = s.os := mv.os
    subst eg ed eo
    have fin := go h2 t2 k2
    simpa using fin
  · simpa using small
end
section
variable {X : Cx} {pos : Pos}
/-- (a, *b) = a list with an item at least: its first item, a new list of the others -/
def gFirst (K : PySem.W.Frag) (t : TGs) : TG := fun v σ H Q => ∃ a x xs, v = .ref a ∧ SqL K H a (x :: xs) ∧ ∀ p, H p = Option.none → t [x, .ref p] σ (upd H p (.lst xs)) Q
theorem pg_first {e1 e2 : Expr} {sp : Pos} {k : Nat} {t : TGs} (hc : X.calm = true) (h : PGs X [e1, e2] t)
    (hm : (assignEach [e1, .Starred e2 sp] X.env).map (·.2) = (assignEach [e1, e2] X.env).map (·.2) := by rfl) (hn : (assignEach [e1, .Starred e2 sp] X.env).length = 2 := by rfl)
    (hst : (assignEach [e1, .Starred e2 sp] X.env).findIdx? (·.1) = some 1 := by rfl) : PG X (.Tuple [e1, .Starred e2 sp] k pos) (gFirst X.K t) := by
  refine ⟨fun pins s σ H v u Q I r hw => ?_⟩
  obtain ⟨a, x, xs, e1, hq, hw⟩ := hw
  subst e1
  cases r
  obtain ⟨its, rv, pl, hz⟩ := I.list hq
  cases rv with
  | @cons _ u1 _ us r1 rr =>
    have small : us.length ≤ sizeLine := by
      have := rr.length
      have : (x :: xs).length = xs.length + 1 := rfl
      omega
    rw [PyProof.Rows.assign_Tuple]
    refine wpAny_bind (wpAny_standAt ?_)
    unfold unpack
    rw [hn, hst, hm]
    refine wpAny_bind (wpAny_holding (items_first (I.ok.hd hc) pl.isList small fun h' tk keep => ?_))
    have I1 : Inv X pins σ H { s with heap := h', toks := tk } := I.kept keep
    have hf : H h'.objs.size = Option.none := I1.hok.fresh (Nat.le_refl _)
    have I2 : Inv X pins σ (upd H h'.objs.size (.lst xs)) { s with heap := h'.push { cls := .type "list", data := .seq us.toArray }, toks := tk } :=
      I1.laid (t' := tk) (fun b o e => Heap.get?_push_of_some _ e) (Nat.le_refl _) ⟨by have := rr.length; omega, us, 0, rr, Heap.get?_push_size _ rfl⟩
    exact h.run pins _ σ _ [x, .ref h'.objs.size] [u1, .ref h'.objs.size] Q I2 (.cons r1 (.cons rfl .nil)) (hw _ hf)
end
/-! ### d.get(k) of a written dict with text keys -/
section
variable {X : Cx} {o e : Expr} {apos cpos : Pos} {td ty : TE} {d : Addr} {es : Array DictEntry} {n : Nat}
def tGetK (K : PySem.W.Frag) (d : Addr) (td ty : TE) : TE := fun σ H Q => td σ H fun x H1 => x = .ref d ∧ ty σ H1 fun y H2 => ∃ z r, y = .str z ∧ PySem.W.nsIn K d z = some r ∧ ((r = Option.none ∧ Q .non H2) ∨ ∃ u v, r = some u ∧ RelV v u ∧ Q v H2)
theorem pe_getK {K : PySem.W.Frag} {w : World} (D : KDict K w d es n) (ho : PE X o td) (he : PE X e ty) (m : M1 X o "get" apos e cpos) (eK : X.K = K := by rfl) (ew : X.w = w := by rfl) : PE X (.Call (.Attribute o "get" apos) [e] [] cpos) (tGetK K d td ty) := by
  subst eK ew
  refine ⟨fun pins s σ H Q I h => ?_⟩
  have M : ∀ {s' : Shared} {σ' : L2.St} {H' : Hp}, Inv X pins σ' H' s' → _ := fun J => PySem.W.mapOf_K (prog := X.prog) (w := X.w) J.kIn D.at_ D.lit
  refine wpAny_Call_method m.base m.few m.line PySem.F.plainAttrs_dict PySem.F.slot_dict_get PySem.F.type_dict_get (thn (ho.run pins s σ H _ I h) fun u s1 ⟨x, H1, I1, rx, ex, q1⟩ => ?_)
  subst ex
  obtain rfl : u = Value.ref d := rx
  refine ⟨(M I1).typeIs, fun b q => ?_, ?_⟩
  · cases q
    exact ⟨_, I1.kIn _ _ D.at_, rfl⟩
  rw [m.trees]
  refine Calls.callWith_builtin rfl (Calls.evalArgs_plain (Calls.spliced_cons (thn (he.run pins s1 σ H1 _ I1 q1) fun iv s2 ⟨y, H2, I2, ry, z, r, ey, hr, q2⟩ => Calls.spliced_nil ?_)))
  subst ey
  obtain ⟨t, rfl⟩ := ry
  refine call_meetsIn PySem.F.slot_dict_get (M I2).typeIs PySem.F.entry_dict_get (PySem.F.args_dict_get_2 _ _) (meets_dict_get (PySem.strKind X.prog X.w) d (PySem.strKind_is X.prog X.w z t) D.low) ⟨_, M I2, ?_⟩
  rw [PySem.W.find_K D.at_ hr]
  rcases q2 with ⟨rfl, q⟩ | ⟨u, v, rfl, rv, q⟩
  · exact ⟨.non, H2, I2.tok _, rfl, q⟩
  · exact ⟨v, H2, I2.tok _, rv, q⟩
end
end FC
set_option Elab.async false
set_option linter.all false
set_option maxRecDepth 100000
set_option maxHeartbeats 4000000
namespace FC
open PySem L2
def spReadStep : Sp := fun vs H Q _ => ∃ p : Str, vs = [.str p] ∧ p.length + 2 ≤ sizeLine ∧ ∀ b H', Same H H' → H b = none → H' b = some (.tup (readStep p)) → Q (.ref b) H'
theorem split_len (x y : Str) : (Txt.split x y).length ≤ x.length + 2 := PyProof.Rows.split_le x y
section
variable {P : Program} {w : World} {K : PySem.W.Frag} {mg : Str → Option Value} {base : Heap}
theorem scReadStep : FnScope ["text", "name", "words", "numbers", "word"] ["text"] (defScope sReadStep) := ⟨rfl, rfl, rfl, by decide +kernel, rfl, by decide +kernel, by decide +kernel⟩
theorem ok_readStep {f dN : Addr} {fd : FuncData} (F : Fun K "read_step" "read_step" sReadStep f fd) (mN : mg "NUMBERS" = some (.ref dN)) (B : NumT K w dN) : FnOk P w K mg base CX0 1 f fd ["text"] spReadStep := by
  refine F.ok scReadStep (fun vs H Q E h => ?_) (fun cdv A outer s H vs Q E hr h => ?_)
  · obtain ⟨p, rfl, _⟩ := h
    rfl
  · obtain ⟨p, rfl, hp, k⟩ := h
    have nd := scReadStep.nd
    obtain ⟨es, nn, kd⟩ := B.kd
    refine ⟨_, pss_cons (ps_asg (pe_split (pv 0) pe_str) (pg_first rfl (pgs_cons (pg_name (i := 1) nd rfl (Or.inl rfl)) (pgs_cons (pg_name (i := 2) nd rfl (Or.inl rfl)) pgs_nil))))
      (pss_cons (ps_setLc (i := 3) (own := [("word", 4)]) (g := gName 4) (by rfl) nd rfl rfl (sw_true rfl rfl rfl (by decide +kernel)) (pi_list (pv 2)) (blkOk_by (own := [("word", 4)]) (N := ["text", "name", "words", "numbers", "word"]) (sc := defScope sReadStep) (by decide +kernel))
        (fun _ _ _ _ _ => pg_name (i := 4) nd rfl (Or.inl rfl)) (fun _ _ _ _ _ => pts_nil) (fun _ _ _ _ _ => pe_getK kd (pe_glob (v := .ref dN) rfl mN rfl) (pv 4) ⟨rfl, rfl, rfl, rfl⟩))
      (pss_one (ps_ret (pe_tup (pa_cons (pv 1) (StX.pa_star (pv 3) pa_nil)))))), ?_⟩
    refine ⟨_, rfl, ⟨_, rfl⟩, p, " ", rfl, rfl, by decide +kernel, hp, fun a na => ?_⟩
    obtain ⟨x, ws, es⟩ : ∃ x ws, Txt.split p " " = x :: ws := by
      cases e : Txt.split p " " with
      | nil => exact absurd e (split_ne _ _)
      | cons x ws => exact ⟨x, ws, rfl⟩
    have sp := split_len p " "
    rw [es] at sp
    have sp : ws.length + 1 ≤ p.length + 2 := sp
    rw [es]
    have s1 : Same H (upd H a (.lst ((x :: ws).map V.str))) := same_upd (Same.refl H) na
    refine ⟨a, .str x, ws.map V.str, rfl, SqL.of upd_same, fun b nb => ?_⟩
    have s2 : Same H (upd (upd H a (.lst ((x :: ws).map V.str))) b (.lst (ws.map V.str))) := same_upd s1 nb
    refine ⟨_, _, rfl, _, _, rfl, rfl, ?_⟩
    refine ⟨_, rfl, b, rfl, ⟨_, SqL.of upd_same⟩, fun D nD => ?_⟩
    have s3 := same_upd (o := .lst []) s2 nD
    have nDb : b ≠ D := ne_of_none upd_same nD
    refine lc_list (K := K) (a := b) (xs := ws.map V.str) (fun j H3 => H3 D = some (.lst ((ws.take j).map num)) ∧ H3 b = some (.lst (ws.map V.str)) ∧ Same H H3) ⟨upd_same, (upd_ne nDb).trans upd_same, s3⟩ (fun j H3 _ ⟨_, h3, _⟩ => SqL.of h3) ?_ ?_
    · rintro j y H3 hy ⟨hD, hb, s4⟩
      have hj : j < ws.length := by
        have := get_lt hy
        rwa [List.length_map] at this
      have ew : ws[j]? = some ws[j] := List.getElem?_eq_getElem hj
      obtain rfl : y = .str ws[j] := by
        rw [List.getElem?_map, ew] at hy
        exact (Option.some.inj hy).symm
      have fin : ∃ acc, H3 D = some (.lst acc) ∧ acc.length < sizeLine ∧ upd H3 D (.lst (acc ++ [num ws[j]])) D = some (.lst ((ws.take (j + 1)).map num)) ∧ upd H3 D (.lst (acc ++ [num ws[j]])) b = some (.lst (ws.map V.str)) ∧ Same H (upd H3 D (.lst (acc ++ [num ws[j]]))) := by
        refine ⟨_, hD, ?_, ?_, (upd_ne nDb).trans hb, ?_⟩
        · rw [List.length_map, List.length_take]
          omega
        · rw [upd_same, take_succ_get ew, List.map_append]
          rfl
        · intro q u hq
          have hqD : q ≠ D := fun z => by
            have := s2 q u hq
            rw [z, nD] at this
            cases this
          rw [upd_ne hqD]
          exact s4 q u hq
      obtain ⟨r, hr1, hm⟩ := B.at_ ws[j]
      refine ⟨rfl, ⟨rfl, _, rfl, ws[j], r, rfl, hr1, ?_⟩⟩
      unfold num at fin
      cases el : numTab.lookup ws[j] with
      | none =>
        rw [el] at hm fin
        exact .inl ⟨hm, fin⟩
      | some i =>
        rw [el] at hm fin
        obtain ⟨t, hm⟩ := hm
        exact .inr ⟨_, .int i, hm, ⟨t, rfl⟩, fin⟩
    · rintro H3 ⟨hD, hb, s4⟩
      rw [List.length_map, List.take_length] at hD
      refine ⟨_, rfl, _, rfl, D, ws.map num, rfl, .inr (SqL.of hD), ?_⟩
      have er : readStep p = V.str x :: (ws.map num ++ []) := by
        unfold readStep
        rw [es, List.append_nil]
      refine ⟨?_, fun t nt => ?_⟩
      · rw [List.length_cons, List.length_append, List.length_map]
        show ws.length + 0 + 1 ≤ sizeLine
        omega
      · refine k t _ (same_upd s4 nt) (Same.free s4 nt) ?_
        rw [er]
        exact upd_same
end
end FC
set_option Elab.async false
set_option linter.all false
set_option maxRecDepth 100000
set_option maxHeartbeats 4000000
namespace FC
open PySem L2
/-- the chain of the text, or InvalidText -/
def spParse (K : PySem.W.Frag) (C : Addr) : Sp := fun vs H Q E => ∃ x, vs = [x] ∧ ((∃ z : Str, x = .str z ∧ z.length ≤ 1000000 ∧ ∀ H', Same H H' → (chainOk (parse z) = true → ∀ a, H a = none → ChainAt K H' a (parse z) → Q (.ref a) H') ∧ (chainOk (parse z) = false → E (.ref C) none H')) ∨
  (Nice K H x ∧ isS x = false ∧ E (.ref C) none H))
theorem joinL_len {S p : List Nat} : ∀ {ps : List (List Nat)}, p ∈ ps → p.length ≤ (TL.joinL S ps).length
  | [], h => by simp at h
  | [q], h => by
    rw [List.mem_singleton.mp h]
    exact Nat.le_refl _
  | q :: r :: s, h => by
    show p.length ≤ (q ++ (S ++ TL.joinL S (r :: s))).length
    rw [List.length_append, List.length_append]
    rcases List.mem_cons.mp h with z | z
    · rw [z]
      omega
    · have := joinL_len (S := S) z
      omega
theorem part_le {z p : Str} (h : p ∈ Txt.split z " | ") : p.length ≤ z.length := by
  have e := congrArg TL.tl (join_bar z)
  rw [TL.join_eq, TL.tl_join] at e
  have := joinL_len (S := TL.tl " | ") (List.mem_map.mpr ⟨p, h, rfl⟩ : TL.tl p ∈ (Txt.split z " | ").map TL.tl)
  rw [e] at this
  rw [TL.len_tl, TL.len_tl]
  exact this
theorem parts_mem {z p : Str} (h : p ∈ parts z) : p.length ≤ z.length := by
  unfold parts at h
  split at h
  · cases h
  · exact part_le h
theorem parts_len (z : Str) : (parts z).length ≤ z.length + 2 := by
  unfold parts
  split
  · simp
  · exact split_len _ _
theorem readStep_nice {K : PySem.W.Frag} {H : Hp} {p : Str} : ∀ y ∈ readStep p, Nice K H y := by
  intro y hy
  unfold readStep at hy
  split at hy
  · rcases List.mem_cons.mp hy with z | z
    · rw [z]
      exact Nice.str _
    · obtain ⟨w, _, rfl⟩ := List.mem_map.mp z
      unfold num
      split
      · exact Nice.int _
      · exact Nice.non
  · cases hy
/-- the parts of the text in slot i, in a new list -/
def tParts (i : Nat) : TE := fun σ H Q => ∃ z : Str, σ[i]? = some (some (.str z)) ∧ z.length + 2 ≤ sizeLine ∧ ∀ a, H a = none → Q (.ref a) (upd H a (.lst ((parts z).map V.str)))
section
variable {P : Program} {w : World} {K : PySem.W.Frag} {mg : Str → Option Value} {base : Heap}
theorem scParse : FnScope ["text", "parts", "chain", "part"] ["text"] (defScope sParse) := ⟨rfl, rfl, rfl, by decide +kernel, rfl, by decide +kernel, by decide +kernel⟩
theorem ok_parse {f C : Addr} {fd : FuncData} (F : Fun K "parse_chain" "parse_chain" sParse f fd) (T : Blt mg) (X : ExcT K mg "InvalidText" C) (CR : Cal P w K mg base CX0 1 "read_step" ["text"] spReadStep) (CC : Cal P w K mg base CX0 4 "is_chain" ["value"] (spIsChain K)) :
    FnOk P w K mg base (L2N.CX P w) 5 f fd ["text"] (spParse K C) := by
  refine okN F scParse (fun vs H Q E h => ?_) (fun cdv A outer s H vs Q E hr h => ?_)
  · obtain ⟨x, rfl, _⟩ := h
    rfl
  · obtain ⟨x, rfl, k⟩ := h
    have nd := scParse.nd
    have hr1 : Room 1 _ := hr.mono (by decide)
    refine ⟨_, pss_cons (ps_if (pt_not (pt_val (pe_callB call_isi (by rfl) T.isi (by decide +kernel) (pa_cons (pv 0) (pa_cons (pe_bltn (v := .ty "str") (by rfl) T.str (by decide +kernel) rfl) pa_nil)))))
        (pss_one (L2N.ps_raise rfl (L2N.takes_of rfl rfl rfl rfl) (L2N.pmk_own PySem.F.excBase_ValueError X.q X.gC X.kC (raises_own X.bP X.tP) rfl))) pss_nil)
      (pss_cons (ps_set (i := 1) nd rfl (Or.inl rfl) (pe_as (t' := tParts 0) (pe_ifExp (pt_cmpR op_ne (pv 0) pe_str (nomark _)) (pe_split (pv 0) pe_str) (pe_lst pa_nil)) ?_))
      (pss_cons (ps_set (i := 2) nd rfl (Or.inl rfl) (pe_callTy call_tuple_of (by rfl) T.tuple (by decide +kernel) (pa_cons
        (pe_lc (own := [("part", 3)]) (g := gName 3) (by rfl) nd (pi_list (pv 1)) (blkOk_by (own := [("part", 3)]) (N := ["text", "parts", "chain", "part"]) (sc := defScope sParse) (by decide +kernel)) (fun _ _ _ _ _ => pg_name (i := 3) nd rfl (Or.inl rfl))
          (fun _ _ _ _ _ => pts_nil) (fun _ _ _ _ _ => pe_cal CR hr1 pass0 (pa_cons (pv 3) pa_nil))) pa_nil)))
      (pss_cons (ps_if (pt_not (pt_val (pe_cal CC hr pass0 (pa_cons (pv 2) pa_nil))))
        (pss_one (L2N.ps_raise rfl (L2N.takes_of rfl rfl rfl rfl) (L2N.pmk_own PySem.F.excBase_ValueError X.q X.gC X.kC (raises_own X.bP X.tP) rfl))) pss_nil)
      (pss_one (ps_ret (pv 2)))))), ?_⟩
    · rintro σ H1 Q1 ⟨z, h0, hz, q⟩
      refine ⟨_, h0, rfl, _, rfl, ?_⟩
      unfold parts at q
      by_cases hz0 : z = Str.empty
      · rw [if_pos hz0] at q
        have e : decide (V.str z = V.str "") = true := decide_eq_true (by rw [hz0]; rfl)
        show if (!decide (V.str z = V.str "")) = true then _ else _
        rw [e]
        exact iteF ⟨by decide, q⟩
      · rw [if_neg hz0] at q
        have e : decide (V.str z = V.str "") = false := decide_eq_false fun y => hz0 (by injection y)
        show if (!decide (V.str z = V.str "")) = true then _ else _
        rw [e]
        exact iteT ⟨_, h0, ⟨_, rfl⟩, z, " | ", rfl, rfl, by decide +kernel, hz, q⟩
    rcases k with ⟨z, rfl, hz, k⟩ | ⟨⟨t, ht, hty⟩, hS, k⟩
    · refine ⟨_, rfl, _, _, _, _, _, rfl, .ty _, .base (.str z), kit_ty (kit_str "str" (by decide)), _, rfl, iteF ?_⟩
      have szl : 1000100 ≤ sizeLine := by decide
      have hpl := parts_len z
      refine ⟨z, rfl, by omega, fun a na => ?_⟩
      have s1 : Same H (upd H a (.lst ((parts z).map V.str))) := same_upd (Same.refl H) na
      have h1 : upd H a (.lst ((parts z).map V.str)) a = some (.lst ((parts z).map V.str)) := upd_same
      generalize upd H a (.lst ((parts z).map V.str)) = H1 at s1 h1 ⊢
      refine ⟨_, rfl, a, rfl, ⟨_, SqL.of h1⟩, fun D nD => ?_⟩
      have s2 := same_upd (o := .lst []) s1 nD
      have nDa : a ≠ D := ne_of_none h1 nD
      refine lc_list (K := K) (a := a) (xs := (parts z).map V.str) (fun j H3 => ∃ bs : List Addr, bs.length = j ∧ H3 D = some (.lst (bs.map V.ref)) ∧ H3 a = some (.lst ((parts z).map V.str)) ∧ Same H H3 ∧
          ∀ (i : Nat) (b : Addr) (p : Str), bs[i]? = some b → (parts z)[i]? = some p → H3 b = some (.tup (readStep p)))
        ⟨[], rfl, upd_same, (upd_ne nDa).trans h1, s2, fun i b p hb => by simp at hb⟩ (fun j H3 _ ⟨_, _, _, h3, _⟩ => SqL.of h3) ?_ ?_
      · rintro j y H3 hy ⟨bs, hbs, hD, h3, s3, each⟩
        have hj : j < (parts z).length := by
          have := get_lt hy
          rwa [List.length_map] at this
        have ep : (parts z)[j]? = some (parts z)[j] := List.getElem?_eq_getElem hj
        obtain rfl : y = .str (parts z)[j] := by
          rw [List.getElem?_map, ep] at hy
          exact (Option.some.inj hy).symm
        have hpm : (parts z)[j] ∈ parts z := List.getElem_mem hj
        have hpl2 := parts_mem hpm
        refine ⟨rfl, ⟨_, rfl, (parts z)[j], rfl, by omega, fun b H4 s4 nb hb => ⟨bs.map V.ref, s4 _ _ hD, ?_, bs ++ [b], ?_, ?_, ?_, ?_, ?_⟩⟩⟩
        · rw [List.length_map]
          omega
        · rw [List.length_append, hbs]
          rfl
        · rw [upd_same, List.map_append]
          rfl
        · rw [upd_ne nDa]
          exact s4 _ _ h3
        · intro q u hq
          have hqD : q ≠ D := fun e => by
            have := s1 q u hq
            rw [e, nD] at this
            cases this
          rw [upd_ne hqD]
          exact s4 q u (s3 q u hq)
        · intro i b' p hb' hp
          have key : H4 b' = some (.tup (readStep p)) := by
            by_cases hi : i < bs.length
            · rw [List.getElem?_append_left hi] at hb'
              exact s4 _ _ (each i b' p hb' hp)
            · have hi2 := get_lt hb'
              rw [List.length_append] at hi2
              have hi2 : i < bs.length + 1 := hi2
              have ei : i = bs.length := by omega
              subst ei
              rw [List.getElem?_append_right (Nat.le_refl _), Nat.sub_self] at hb'
              have eb : b = b' := Option.some.inj hb'
              rw [hbs, ep] at hp
              have ep2 : (parts z)[j] = p := Option.some.inj hp
              rw [← eb, ← ep2]
              exact hb
          have hD' : H4 D = some (.lst (bs.map V.ref)) := s4 _ _ hD
          rw [upd_ne (ne_of key hD' (by intro e; cases e))]
          exact key
      · rintro H3 ⟨bs, hbs, hD, h3, s3, each⟩
        rw [List.length_map] at hbs
        refine ⟨D, _, rfl, .inl ⟨SqL.of hD, fun t nt => ?_⟩⟩
        have s4 := same_upd (o := .tup (bs.map V.ref)) s3 nt
        have st : Steps K (upd H3 t (.tup (bs.map V.ref))) (bs.map V.ref) ((parse z).map some) := by
          refine ⟨?_, fun i x o hx ho => ?_⟩
          · unfold parse
            rw [List.length_map, List.length_map, List.length_map, hbs]
          · have hi : i < bs.length := by
              have := get_lt hx
              rwa [List.length_map] at this
            have hi2 : i < (parts z).length := by omega
            have eb : bs[i]? = some bs[i] := List.getElem?_eq_getElem hi
            have ep : (parts z)[i]? = some (parts z)[i] := List.getElem?_eq_getElem hi2
            rw [List.getElem?_map, eb] at hx
            unfold parse at ho
            rw [List.getElem?_map, List.getElem?_map, ep] at ho
            have hx : V.ref bs[i] = x := Option.some.inj hx
            have ho : some (readStep (parts z)[i]) = o := Option.some.inj ho
            rw [← hx, ← ho]
            have h5 := each i _ _ eb ep
            refine ⟨bs[i], rfl, SqT.of ?_, fun y hy => readStep_nice y hy⟩
            rw [upd_ne (ne_of_none h5 nt)]
            exact h5
        have ca : ChainAt K (upd H3 t (.tup (bs.map V.ref))) t (parse z) := ⟨_, SqT.of upd_same, st⟩
        refine ⟨_, rfl, .ref t, _, rfl, ca.v, fun H5 s5 => ⟨_, rfl, ?_⟩⟩
        have s6 := Same.trans s4 s5
        show if (!chainOkL ((parse z).map some)) = true then _ else _
        rw [chainOkL_some]
        cases h : chainOk (parse z) with
        | false => exact iteT ((k H5 s6).2 h)
        | true => exact iteF ⟨_, rfl, (k H5 s6).1 h t (Same.free s3 nt) (ca.same s5)⟩
    · refine ⟨_, rfl, _, _, _, _, _, rfl, .ty _, hty, kit_ty (kit_str t ht), _, rfl, ?_⟩
      rw [← isS_of hty, hS]
      exact iteT k
end
end FC
set_option Elab.async false
set_option linter.all false
set_option maxRecDepth 100000
set_option maxHeartbeats 1000000
/-! A feed is made; what is free; errors as data. -/
namespace FC
open PySem PySem.Spec PyProof.Rows L2
/-- a feed is made: nothing else changes -/
theorem made_same {C x dx : Addr} {F : FC5} {H H2 : Hp} (nx : H x = none) (ndx : H dx = none) (fr : Frm [x] (upd (upd H dx (.own x)) x (.ins C dx [])) H2) (new : ∀ b ∈ F.cells x, b = x ∨ upd (upd H dx (.own x)) x (.ins C dx []) b = none) : Same H H2 ∧ ∀ b ∈ F.cells x, H b = none := by
  have s : Same H (upd (upd H dx (.own x)) x (.ins C dx [])) := fun b o e => by
    rw [upd_ne (ne_of_none e nx), upd_ne (ne_of_none e ndx)]
    exact e
  refine ⟨fun b o e => fr b o (s b o e) (fun z => by rw [List.mem_singleton.mp z, nx] at e; cases e), fun b hb => ?_⟩
  rcases new b hb with z | z
  · rw [z]; exact nx
  · cases q : H b with
    | none => rfl
    | some o => rw [s _ _ q] at z; cases z
theorem made_ch {C x dx : Addr} {H : Hp} (nx : H x = none) (ndx : H dx = none) : Same H (upd (upd H dx (.own x)) x (.ins C dx [])) := fun b o e => by
  rw [upd_ne (ne_of_none e nx), upd_ne (ne_of_none e ndx)]
  exact e
/-- nothing stands there but, it may be, a table -/
def FreeN (H : Hp) (b : Addr) : Prop := ∀ o, H b = some o → ∃ ps, o = .tbl ps
theorem ext_frm {L : List Addr} {H H1 H2 : Hp} (x : LamX.ExtN H H1) (y : Frm L H1 H2) (f : ∀ b ∈ L, FreeN H b) : LamX.ExtN H H2 := fun b o h n => y b o (x b o h n) (fun z => by
  obtain ⟨ps, e⟩ := f b z o h
  exact n ps e)
theorem freeN_ext {H H1 : Hp} (x : LamX.ExtN H H1) {b : Addr} (h : H1 b = none) : FreeN H b := fun o q => by
  cases o with
  | tbl ps => exact ⟨ps, rfl⟩
  | _ =>
    have e := x b _ q (fun ps z => by cases z)
    rw [h] at e
    cases e
theorem chain_refl {cs : List (List V)} (h : chainOk cs = true) : PyData.eqv (chainData cs) (chainData cs) = true := SeqAt.eqv_refl _ (SeqAt.canLay_of_shaped (chain_shaped h))
theorem lst_refl (ns : List Int) : PyData.eqv (.list (intsD ns)) (.list (intsD ns)) = true := SeqAt.eqv_refl _ (SeqAt.canLay_of_shaped (lst_shaped ns))
theorem erd_shaped (z : Str) (h : PyData.strOk z = true) : SeqAt.shaped (errData z) = true := by
  show (PyData.canLayAll0 [.str "error", .str z] && decide (PyData.depthAll [.str "error", .str z] + 1 ≤ 64)) = true
  have e1 : PyData.canLayAll0 [.str "error", .str z] = true := lay_all fun d hd => by
    rcases List.mem_cons.mp hd with e | e
    · rw [e]
      show PyData.strOk "error" = true
      decide +kernel
    · rw [List.mem_singleton.mp e]
      exact h
  rw [e1]
  rfl
end FC
set_option Elab.async false
set_option linter.all false
set_option maxRecDepth 100000
set_option maxHeartbeats 4000000
/-! The law's own look at the greatest numbers. -/
namespace FC
open PySem PySem.Spec PyProof.Rows L2
structure LibN (P : Program) (w : World) (K : PySem.W.Frag) (mg : Str → Option Value) (base : Heap) (g f2 CE c0 c1 c2 c3 c4 c5 C : Addr) (fdg fd2 : FuncData) : Prop where
  blt : Blt mg
  make : MkCal P w K mg base (L2N.CX P w) 6 C "Feed" ["self", "chain"] (spInitF K C c0)
  put : MCal P w K mg base (L2N.CX P w) 5 C "put" ["self", "number"] (spPut K C c2 c4)
  fgiven : MCal P w K mg base CX0 1 C "given" ["self"] (spGivF K C)
  fdT : FdT K mg C
  run : Cal P w K mg base (L2N.CX P w) 9 "run" ["chain", "row"] (spRunP K c0 c1)
  mix : Cal P w K mg base (L2N.CX P w) 9 "mix" ["chain", "row"] (spMixE K c0 c1)
  Fg : Fun K "_law_told" "_law_told" sTold g fdg
  bg : Binds K fdg ["_law_deed"] []
  mg_ : mg "_law_told" = some (.ref g)
  F2 : FnP P w K mg base 1 f2 fd2 ["_law_e"] (spTerm K c0 c1 c2 c3 c4 c5)
  m2 : mg "_law_term" = some (.ref f2)
  k2 : PySem.W.keepIn K (.ref f2) = true
  b2 : Binds K fd2 ["_law_e"] []
  mE : mg "ChainError" = some (.ref CE)
  one0 : OneT K c0 0 c0 c1 c2 c3 c4 c5
  em0 : PySem.W.exmOne K (.ref c0) (.ref CE) = some true
  one1 : OneT K c1 1 c0 c1 c2 c3 c4 c5
  em1 : PySem.W.exmOne K (.ref c1) (.ref CE) = some true
  one2 : OneT K c2 2 c0 c1 c2 c3 c4 c5
  em2 : PySem.W.exmOne K (.ref c2) (.ref CE) = some true
abbrev NR : List Str := ["_law_far", "_law_feed"]
def qR : Str := "_law_right_numbers" ++ ".<locals>." ++ "<lambda>"
def spRightN (TT : List (Addr × Str)) : Sp := fun vs H Q _ => vs = [] ∧ LamX.Tabs TT H ∧ ∀ H', LamX.ExtN H H' → LamX.Tabs TT H' → Q (.bl true) H'
abbrev far : Int := 10 ^ (30 : Int).toNat
abbrev psN : List Stp := [.sums, .line (-1) 0]
/-- chains written in the text -/
theorem chain_nil {K : PySem.W.Frag} {H : Hp} {a : Addr} (h : SqT K H a []) : ChainAt K H a (([] : List Stp).map Stp.v) := ⟨[], h, rfl, fun i x o hx _ => by simp at hx⟩
theorem chain_sums {K : PySem.W.Frag} {H : Hp} {a b : Addr} (h : SqT K H a [.ref b]) (hb : SqT K H b [.str "sums"]) : ChainAt K H a ([Stp.sums].map Stp.v) := ⟨[.ref b], h, rfl, fun i x o hx ho => by
  match i, hx, ho with
  | 0, hx, ho =>
    cases hx
    cases ho
    exact ⟨b, rfl, hb, fun y hy => by rw [List.mem_singleton.mp hy]; exact Nice.str _⟩
  | n + 1, hx, ho => simp at hx⟩
theorem chain_N {K : PySem.W.Frag} {H : Hp} {a b c : Addr} (h : SqT K H a [.ref b, .ref c]) (hb : SqT K H b [.str "sums"]) (hc : SqT K H c [.str "line", .int (-1), .int 0]) : ChainAt K H a (psN.map Stp.v) := ⟨[.ref b, .ref c], h, rfl, fun i x o hx ho => by
  match i, hx, ho with
  | 0, hx, ho =>
    cases hx
    cases ho
    exact ⟨b, rfl, hb, fun y hy => by rw [List.mem_singleton.mp hy]; exact Nice.str _⟩
  | 1, hx, ho =>
    cases hx
    cases ho
    refine ⟨c, rfl, hc, fun y hy => ?_⟩
    simp only [List.mem_cons, List.mem_nil_iff, or_false, Stp.v, Stp.name, Stp.args, List.map_cons, List.map_nil] at hy
    rcases hy with rfl | rfl | rfl
    · exact Nice.str _
    · exact Nice.int _
    · exact Nice.int _
  | n + 2, hx, ho => simp at hx⟩
section
variable {P : Program} {w : World} {K : PySem.W.Frag} {mg : Str → Option Value} {base : Heap}
theorem scRightN : FnScope NR [] (defScope sRightN) := ⟨rfl, rfl, rfl, by decide +kernel, rfl, by decide +kernel, by decide +kernel⟩
theorem ok_rightN {f c Pt g f2 CE c0 c1 c2 c3 c4 c5 C : Addr} {fdg fd2 : FuncData} {dV kV doc pm ct oc : Value} {an od : Option Addr} {osl : Array (Option Value)} {TT : List (Addr × Str)} (B : LibN P w K mg base g f2 CE c0 c1 c2 c3 c4 c5 C fdg fd2) (TB : LamX.TabB base mg c Pt)
    (hTm : (Pt, qR) ∈ TT) (hTu : ∀ p ∈ TT, p.1 = Pt → p.2 = qR)
    (lk : K.lookup f = some ⟨oc, od, .func (PySem.W.fnOf "_law_right_numbers" "_law_right_numbers" (defArgs sRightN) (defBody sRightN) (defScope sRightN) dV kV doc pm an (.ref c) ct), osl⟩) (hcd : PySem.W.codeIn K (.ref c) "_law_right_numbers" = true) :
    FnOk P w K mg base CX0 12 f (PySem.W.fnOf "_law_right_numbers" "_law_right_numbers" (defArgs sRightN) (defBody sRightN) (defScope sRightN) dV kV doc pm an (.ref c) ct) [] (spRightN TT) := by
  refine fn_of lk hcd scRightN (fun vs H Q E h => ?_) (fun A outer s H vs Q E hr h => ?_)
  · obtain ⟨rfl, _⟩ := h
    rfl
  · obtain ⟨rfl, hT, k⟩ := h
    have nd := scRightN.nd
    have hr1 : Room 1 _ := hr.mono (by decide)
    have hr7 : Room 7 _ := hr.mono (by decide)
    have hr11 : Room 11 _ := hr
    have T := B.blt
    refine ⟨_, PSs.nox ((pss_cons (ps_asg (pe_tup (pa_cons (pe_op op_pow pe_int pe_int) (pa_cons (pe_mkc B.make hr7 passN (pa_cons (pe_tup (pa_cons (pe_tup (pa_cons pe_str pa_nil)) (pa_cons (pe_tup (pa_cons pe_str (pa_cons (pe_un un_neg pe_int) (pa_cons pe_int pa_nil)))) pa_nil))) pa_nil)) pa_nil))) (pg_tup rfl (pgs_cons (pg_name (i := 0) nd rfl (Or.inr rfl)) (pgs_cons (pg_name (i := 1) nd rfl (Or.inr rfl)) pgs_nil))))
    (pss_cons (ps_if (pt_cmpR (op_neD hr.units) (pe_told (k := 4) (T := TT) B.Fg B.bg B.mg_ rfl B.F2 B.m2 B.k2 B.b2 B.mE TB rfl hTm hTu hr7 (show LamX.LamS (defScope sRightN) _ from LamX.lamS_by (by decide +kernel)) rfl (fun _ _ _ _ _ => rfl)
          (fun A out s H E f c hr => (pe_mc B.put (pv 1) B.fdT.cl hr (L2N.passes_call (W := fun cls d _ H => E cls d H) (L2N.takes_of rfl rfl rfl rfl) (fun _ _ _ _ h => h)) (pa_cons (pv 0) pa_nil)))) (pe_tup (pa_cons (pe_un un_neg (pv 0)) pa_nil)) (nomark _)) (pss_one (ps_ret pe_bl)) pss_nil)
    (pss_cons (ps_if (pt_cmpR (op_neD hr.units) (pe_told (k := 4) (T := TT) B.Fg B.bg B.mg_ rfl B.F2 B.m2 B.k2 B.b2 B.mE TB rfl hTm hTu hr7 (show LamX.LamS (defScope sRightN) _ from LamX.lamS_by (by decide +kernel)) rfl (fun _ _ _ _ _ => rfl)
          (fun A out s H E f c hr => (pe_mc B.put (pv 1) B.fdT.cl hr (L2N.passes_call (W := fun cls d _ H => E cls d H) (L2N.takes_of rfl rfl rfl rfl) (fun _ _ _ _ h => h)) (pa_cons (pv 0) pa_nil)))) (pe_tup (pa_cons (pe_op op_mul (pe_un un_neg pe_int) (pv 0)) pa_nil)) (nomark _)) (pss_one (ps_ret pe_bl)) pss_nil)
    (pss_cons (ps_if (pt_cmpR (op_neD hr.units) (pe_told (k := 4) (T := TT) B.Fg B.bg B.mg_ rfl B.F2 B.m2 B.k2 B.b2 B.mE TB rfl hTm hTu hr7 (show LamX.LamS (defScope sRightN) _ from LamX.lamS_by (by decide +kernel)) rfl (fun _ _ _ _ _ => rfl)
          (fun A out s H E f c hr => (pe_mc B.put (pv 1) B.fdT.cl hr (L2N.passes_call (W := fun cls d _ H => E cls d H) (L2N.takes_of rfl rfl rfl rfl) (fun _ _ _ _ h => h)) (pa_cons (pe_un un_neg (pv 0)) pa_nil)))) (pe_tup (pa_cons (pe_un un_neg (pv 0)) pa_nil)) (nomark _)) (pss_one (ps_ret pe_bl)) pss_nil)
    (pss_cons (ps_if (pt_cmpR (op_neD hr.units) (pe_told (k := 4) (T := TT) B.Fg B.bg B.mg_ rfl B.F2 B.m2 B.k2 B.b2 B.mE TB rfl hTm hTu hr7 (show LamX.LamS (defScope sRightN) _ from LamX.lamS_by (by decide +kernel)) rfl (fun _ _ _ _ _ => rfl)
          (fun A out s H E f c hr => (pe_mc B.put (pv 1) B.fdT.cl hr (L2N.passes_call (W := fun cls d _ H => E cls d H) (L2N.takes_of rfl rfl rfl rfl) (fun _ _ _ _ h => h)) (pa_cons (pe_op op_add (pv 0) pe_int) pa_nil)))) (pe_tup (pa_cons pe_str (pa_cons pe_str pa_nil))) (nomark _)) (pss_one (ps_ret pe_bl)) pss_nil)
    (pss_cons (ps_if (pt_cmpR (op_neD hr.units) (pe_told (k := 4) (T := TT) B.Fg B.bg B.mg_ rfl B.F2 B.m2 B.k2 B.b2 B.mE TB rfl hTm hTu hr7 (show LamX.LamS (defScope sRightN) _ from LamX.lamS_by (by decide +kernel)) rfl (fun _ _ _ _ _ => rfl)
          (fun A out s H E f c hr => (pe_mc B.put (pv 1) B.fdT.cl hr (L2N.passes_call (W := fun cls d _ H => E cls d H) (L2N.takes_of rfl rfl rfl rfl) (fun _ _ _ _ h => h)) (pa_cons (pe_op op_sub (pe_un un_neg (pv 0)) pe_int) pa_nil)))) (pe_tup (pa_cons pe_str (pa_cons pe_str pa_nil))) (nomark _)) (pss_one (ps_ret pe_bl)) pss_nil)
    (pss_cons (ps_if (pt_cmpR (op_neD hr.units) (pe_mc0 B.fgiven (pv 1) B.fdT.cl hr1 pass0) (pe_tup (pa_cons (pe_un un_neg (pv 0)) (pa_cons (pe_op op_mul (pe_un un_neg pe_int) (pv 0)) (pa_cons (pe_un un_neg (pv 0)) pa_nil)))) (nomark _)) (pss_one (ps_ret pe_bl)) pss_nil)
    (pss_cons (ps_if (pt_cmpR (op_neD hr.units) (pe_told (k := 8) (T := TT) B.Fg B.bg B.mg_ rfl B.F2 B.m2 B.k2 B.b2 B.mE TB rfl hTm hTu hr11 (show LamX.LamS (defScope sRightN) _ from LamX.lamS_by (by decide +kernel)) rfl (fun _ _ _ _ _ => rfl)
          (fun A out s H E f c hr => (pe_cal B.run hr (L2N.passes_call (W := fun cls d _ H => E cls d H) (L2N.takes_of rfl rfl rfl rfl) (fun _ _ _ _ h => h)) (pa_cons (pe_tup (pa_cons (pe_tup (pa_cons pe_str pa_nil)) pa_nil)) (pa_cons (pe_tup (pa_cons (pv 0) (pa_cons (pv 0) (pa_cons (pv 0) pa_nil)))) pa_nil))))) (pe_tup (pa_cons (pv 0) (pa_cons (pe_op op_mul pe_int (pv 0)) (pa_cons (pe_op op_mul pe_int (pv 0)) pa_nil)))) (nomark _)) (pss_one (ps_ret pe_bl)) pss_nil)
    (pss_cons (ps_if (pt_cmpR (op_neD hr.units) (pe_told (k := 8) (T := TT) B.Fg B.bg B.mg_ rfl B.F2 B.m2 B.k2 B.b2 B.mE TB rfl hTm hTu hr11 (show LamX.LamS (defScope sRightN) _ from LamX.lamS_by (by decide +kernel)) rfl (fun _ _ _ _ _ => rfl)
          (fun A out s H E f c hr => (pe_cal B.run hr (L2N.passes_call (W := fun cls d _ H => E cls d H) (L2N.takes_of rfl rfl rfl rfl) (fun _ _ _ _ h => h)) (pa_cons (pe_tup pa_nil) (pa_cons (pe_tup (pa_cons (pe_op op_sub (pe_un un_neg (pv 0)) pe_int) pa_nil)) pa_nil))))) (pe_tup (pa_cons pe_str (pa_cons pe_str pa_nil))) (nomark _)) (pss_one (ps_ret pe_bl)) pss_nil)
    (pss_cons (ps_if (pt_cmpR (op_neD hr.units) (pe_told (k := 8) (T := TT) B.Fg B.bg B.mg_ rfl B.F2 B.m2 B.k2 B.b2 B.mE TB rfl hTm hTu hr11 (show LamX.LamS (defScope sRightN) _ from LamX.lamS_by (by decide +kernel)) rfl (fun _ _ _ _ _ => rfl)
          (fun A out s H E f c hr => (pe_cal B.mix hr (L2N.passes_call (W := fun cls d _ H => E cls d H) (L2N.takes_of rfl rfl rfl rfl) (fun _ _ _ _ h => h)) (pa_cons (pe_tup pa_nil) (pa_cons (pe_tup (pa_cons (pe_op op_add (pv 0) pe_int) pa_nil)) pa_nil))))) (pe_tup (pa_cons pe_str (pa_cons pe_str pa_nil))) (nomark _)) (pss_one (ps_ret pe_bl)) pss_nil)
    (pss_one (ps_ret pe_bl))))))))))))), ?_⟩
    have cpow : CPow 10 30 := ⟨by decide, by decide, by decide⟩
    have hpo : ∀ p ∈ psN, p.ok := fun p hp => by
      simp only [List.mem_cons, List.mem_nil_iff, or_false] at hp
      rcases hp with rfl | rfl
      · trivial
      · exact ⟨by decide, by decide, by decide, by decide⟩
    have hco : chainOk (psN.map Stp.v) = true := by decide +kernel
    have hnil : chainOk (([] : List Stp).map Stp.v) = true := by decide +kernel
    have hsum : chainOk ([Stp.sums].map Stp.v) = true := by decide +kernel
    refine ⟨_, _, rfl, rfl, cpow, (by show 1 ≤ sizeLine; decide), fun q1 n1 => ⟨_, rfl, (by show 3 ≤ sizeLine; decide), fun q2 n2 => ⟨(by show 2 ≤ sizeLine; decide), fun q3 n3 => ?_⟩⟩⟩
    have u1 := same_upd (o := .tup [V.str "sums"]) (Same.refl H) n1
    have u2 := same_upd (o := .tup [V.str "line", .int (-1), .int 0]) (Same.refl _) n2
    have u3 := same_upd (o := .tup [V.ref q1, .ref q2]) (Same.refl _) n3
    have hch : ChainAt K (upd (upd (upd H q1 (.tup [V.str "sums"])) q2 (.tup [V.str "line", .int (-1), .int 0])) q3 (.tup [V.ref q1, .ref q2])) q3 (psN.map Stp.v) := chain_N sqt_new (sqt_same u3 (sqt_same u2 sqt_new)) (sqt_same u3 sqt_new)
    have u := Same.trans (Same.trans u1 u2) u3
    generalize upd (upd (upd H q1 (.tup [V.str "sums"])) q2 (.tup [V.str "line", .int (-1), .int 0])) q3 (.tup [V.ref q1, .ref q2]) = HA at hch u ⊢
    clear u1 u2 u3 n1 n2 n3
    refine fun x dx nx ndx _ => ⟨x, dx, _, rfl, upd_same, .inr ⟨q3, psN, rfl, hch.same (made_ch nx ndx), hco, fun H1 F fd _ fr1 new1 => ⟨rfl, ?_⟩⟩⟩
    obtain ⟨s1, free1⟩ := made_same nx ndx fr1 new1
    refine ⟨(by show 2 ≤ sizeLine; decide), fun tt ntt => ⟨tt, _, rfl, SqT.of upd_same, rfl, _, _, rfl, _, _, rfl, rfl, ?_⟩⟩
    have st := same_upd (o := .tup [V.int far, .ref x]) (Same.refl H1) ntt
    have XA : LamX.ExtN H (upd H1 tt (.tup [V.int far, .ref x])) := LamX.ExtN.of (Same.trans (Same.trans u s1) st)
    have TA : LamX.Tabs TT (upd H1 tt (.tup [V.int far, .ref x])) := hT.ext (Same.trans (Same.trans u s1) st)
    have FN : ∀ b ∈ F.cells x, FreeN H b := fun b hb => freeN_ext (LamX.ExtN.of u) (free1 b hb)
    replace fd := fd.same st
    generalize upd H1 tt (.tup [V.int far, .ref x]) = HB at XA TA fd ⊢
    clear st s1 free1 fr1 new1 u hch nx ndx ntt
    refine ⟨TA, fun H1 e1 t1 => ?_⟩
    replace fd := fd.kp (L := []) (Kp.ext e1) (fun b hb => absurd hb (by simp)) (fun b hb => absurd hb (by simp))
    replace XA := XA.trans e1
    have XP := XA
    clear TA e1
    obtain ⟨dx, hi⟩ := fd.ins
    refine ⟨_, rfl, x, dx, _, rfl, hi, rfl, _, rfl, x, .int (far), F, psN, [], [], rfl, Nice.int _, fd, hpo, (by decide), (by decide), .inr (.inr ⟨far, rfl, (by decide +kernel), (by decide), fun g H2 F2 f2 fr2 new2 _ hg => ?_⟩)⟩
    replace XA := ext_frm XA fr2 FN
    have TA := tabs_frm t1 fr2 fd.plain
    have FN2 : ∀ b ∈ F2.cells x, FreeN H b := fun b hb => by
      rcases new2 b hb with z | z
      · exact FN b z
      · exact freeN_ext XP z
    clear fd hi fr2 new2 t1 FN XP
    obtain ⟨F, fd, FN⟩ : ∃ F : FC5, FeedS K C H2 x F psN ([] ++ [far]) [] ∧ ∀ b ∈ F.cells x, FreeN H b := ⟨F2, f2, FN2⟩
    clear f2 FN2
    rw [show newM psN [] [far] = [-far] by decide +kernel] at hg
    refine ⟨_, rfl, _, rfl, (by show 1 ≤ sizeLine; decide), fun p np => ?_⟩
    have sp := same_upd (o := .tup [V.int (-far)]) (Same.refl H2) np
    refine ⟨.tuple (intsD [-far]), .tuple (intsD [-far]), tp_dp (sqt_same sp hg), tp_dp (ns := [-far]) sqt_new, tp_shaped _, tp_shaped _, _, rfl, ifEqvT (tp_refl _) ?_⟩
    replace XA := XA.trans (LamX.ExtN.of sp)
    replace TA := TA.ext sp
    replace fd := fd.same sp
    generalize upd H2 p (.tup [V.int (-far)]) = HN1 at XA TA fd ⊢
    clear sp np hg
    refine ⟨TA, fun H1 e1 t1 => ?_⟩
    replace fd := fd.kp (L := []) (Kp.ext e1) (fun b hb => absurd hb (by simp)) (fun b hb => absurd hb (by simp))
    replace XA := XA.trans e1
    have XP := XA
    clear TA e1
    obtain ⟨dx, hi⟩ := fd.ins
    refine ⟨_, rfl, x, dx, _, rfl, hi, rfl, _, rfl, x, .int (far), F, psN, [far], [], rfl, Nice.int _, fd, hpo, (by decide), (by decide), .inr (.inr ⟨far, rfl, (by decide +kernel), (by decide), fun g H2 F2 f2 fr2 new2 _ hg => ?_⟩)⟩
    replace XA := ext_frm XA fr2 FN
    have TA := tabs_frm t1 fr2 fd.plain
    have FN2 : ∀ b ∈ F2.cells x, FreeN H b := fun b hb => by
      rcases new2 b hb with z | z
      · exact FN b z
      · exact freeN_ext XP z
    clear fd hi fr2 new2 t1 FN XP
    obtain ⟨F, fd, FN⟩ : ∃ F : FC5, FeedS K C H2 x F psN ([far] ++ [far]) [] ∧ ∀ b ∈ F.cells x, FreeN H b := ⟨F2, f2, FN2⟩
    clear f2 FN2
    rw [show newM psN [far] [far] = [-2 * far] by decide +kernel] at hg
    refine ⟨_, rfl, _, rfl, _, _, rfl, rfl, .inl ⟨by decide, by decide⟩, (by show 1 ≤ sizeLine; decide), fun p np => ?_⟩
    have sp := same_upd (o := .tup [V.int (-2 * far)]) (Same.refl H2) np
    refine ⟨.tuple (intsD [-2 * far]), .tuple (intsD [-2 * far]), tp_dp (sqt_same sp hg), tp_dp (ns := [-2 * far]) sqt_new, tp_shaped _, tp_shaped _, _, rfl, ifEqvT (tp_refl _) ?_⟩
    replace XA := XA.trans (LamX.ExtN.of sp)
    replace TA := TA.ext sp
    replace fd := fd.same sp
    generalize upd H2 p (.tup [V.int (-2 * far)]) = HN2 at XA TA fd ⊢
    clear sp np hg
    refine ⟨TA, fun H1 e1 t1 => ?_⟩
    replace fd := fd.kp (L := []) (Kp.ext e1) (fun b hb => absurd hb (by simp)) (fun b hb => absurd hb (by simp))
    replace XA := XA.trans e1
    have XP := XA
    clear TA e1
    obtain ⟨dx, hi⟩ := fd.ins
    refine ⟨_, rfl, x, dx, _, rfl, hi, rfl, _, rfl, _, rfl, x, .int (-far), F, psN, [far, far], [], rfl, Nice.int _, fd, hpo, (by decide), (by decide), .inr (.inr ⟨-far, rfl, (by decide +kernel), (by decide), fun g H2 F2 f2 fr2 new2 _ hg => ?_⟩)⟩
    replace XA := ext_frm XA fr2 FN
    have TA := tabs_frm t1 fr2 fd.plain
    have FN2 : ∀ b ∈ F2.cells x, FreeN H b := fun b hb => by
      rcases new2 b hb with z | z
      · exact FN b z
      · exact freeN_ext XP z
    clear fd hi fr2 new2 t1 FN XP
    obtain ⟨F, fd, FN⟩ : ∃ F : FC5, FeedS K C H2 x F psN ([far, far] ++ [-far]) [] ∧ ∀ b ∈ F.cells x, FreeN H b := ⟨F2, f2, FN2⟩
    clear f2 FN2
    rw [show newM psN [far, far] [-far] = [-far] by decide +kernel] at hg
    refine ⟨_, rfl, _, rfl, (by show 1 ≤ sizeLine; decide), fun p np => ?_⟩
    have sp := same_upd (o := .tup [V.int (-far)]) (Same.refl H2) np
    refine ⟨.tuple (intsD [-far]), .tuple (intsD [-far]), tp_dp (sqt_same sp hg), tp_dp (ns := [-far]) sqt_new, tp_shaped _, tp_shaped _, _, rfl, ifEqvT (tp_refl _) ?_⟩
    replace XA := XA.trans (LamX.ExtN.of sp)
    replace TA := TA.ext sp
    replace fd := fd.same sp
    generalize upd H2 p (.tup [V.int (-far)]) = HN3 at XA TA fd ⊢
    clear sp np hg
    refine ⟨TA, fun H1 e1 t1 => ?_⟩
    replace XA := XA.trans e1
    replace fd := fd.kp (L := []) (Kp.ext e1) (fun b hb => absurd hb (by simp)) (fun b hb => absurd hb (by simp))
    clear TA e1
    obtain ⟨dx, hi⟩ := fd.ins
    refine ⟨_, rfl, x, dx, _, rfl, hi, rfl, _, rfl, _, _, rfl, rfl, x, .int (far + 1), F, psN, [far, far, -far], [], rfl, Nice.int _, fd, hpo, (by decide), (by decide), .inl ⟨by decide +kernel, fun H3 s3 => ⟨c2, 2, "InvalidNumber", rfl, rfl, B.em2, B.one2, rfl, fun t H4 s4 e4 => ?_⟩⟩⟩
    clear hi
    have t2 := (t1.ext s3).ext s4
    replace XA := (XA.trans (LamX.ExtN.of s3)).trans (LamX.ExtN.of s4)
    replace fd := (fd.same s3).same s4
    clear s3 s4 t1
    refine ⟨(by show 2 ≤ sizeLine; decide), fun p np => ?_⟩
    have sp := same_upd (o := .tup [.str "error", .str "InvalidNumber"]) (Same.refl H4) np
    have esh := erd_shaped "InvalidNumber" (by decide +kernel)
    refine ⟨errData "InvalidNumber", errData "InvalidNumber", err_dp (sp _ _ e4), err_dp upd_same, esh, esh, _, rfl, ifEqvT (SeqAt.eqv_refl _ (SeqAt.canLay_of_shaped esh)) ?_⟩
    replace XA := XA.trans (LamX.ExtN.of sp)
    have TA := t2.ext sp
    replace fd := fd.same sp
    generalize upd H4 p (.tup [.str "error", .str "InvalidNumber"]) = HE1 at XA TA fd ⊢
    clear sp np t2 e4 esh
    refine ⟨TA, fun H1 e1 t1 => ?_⟩
    replace XA := XA.trans e1
    replace fd := fd.kp (L := []) (Kp.ext e1) (fun b hb => absurd hb (by simp)) (fun b hb => absurd hb (by simp))
    clear TA e1
    obtain ⟨dx, hi⟩ := fd.ins
    refine ⟨_, rfl, x, dx, _, rfl, hi, rfl, _, rfl, _, rfl, _, _, rfl, rfl, x, .int (-far - 1), F, psN, [far, far, -far], [], rfl, Nice.int _, fd, hpo, (by decide), (by decide), .inl ⟨by decide +kernel, fun H3 s3 => ⟨c2, 2, "InvalidNumber", rfl, rfl, B.em2, B.one2, rfl, fun t H4 s4 e4 => ?_⟩⟩⟩
    clear hi
    have t2 := (t1.ext s3).ext s4
    replace XA := (XA.trans (LamX.ExtN.of s3)).trans (LamX.ExtN.of s4)
    replace fd := (fd.same s3).same s4
    clear s3 s4 t1
    refine ⟨(by show 2 ≤ sizeLine; decide), fun p np => ?_⟩
    have sp := same_upd (o := .tup [.str "error", .str "InvalidNumber"]) (Same.refl H4) np
    have esh := erd_shaped "InvalidNumber" (by decide +kernel)
    refine ⟨errData "InvalidNumber", errData "InvalidNumber", err_dp (sp _ _ e4), err_dp upd_same, esh, esh, _, rfl, ifEqvT (SeqAt.eqv_refl _ (SeqAt.canLay_of_shaped esh)) ?_⟩
    replace XA := XA.trans (LamX.ExtN.of sp)
    have TA := t2.ext sp
    replace fd := fd.same sp
    generalize upd H4 p (.tup [.str "error", .str "InvalidNumber"]) = HE2 at XA TA fd ⊢
    clear sp np t2 e4 esh
    obtain ⟨dx, hi⟩ := fd.ins
    refine ⟨_, rfl, x, dx, _, rfl, hi, rfl, x, F, psN, [far, far, -far], [], rfl, fd, (by decide), (by decide), fun tg H3 s3 hg => ?_⟩
    rw [show runM psN [far, far, -far] = [-far, -2 * far, -far] by decide +kernel] at hg
    replace XA := XA.trans (LamX.ExtN.of s3)
    replace TA := TA.ext s3
    clear hi fd s3 FN
    refine ⟨_, rfl, _, rfl, _, rfl, _, rfl, _, _, rfl, rfl, .inl ⟨by decide, by decide⟩, _, rfl, _, rfl, (by show 3 ≤ sizeLine; decide), fun p np => ?_⟩
    have sp := same_upd (o := .tup [V.int (-far), .int (-2 * far), .int (-far)]) (Same.refl H3) np
    refine ⟨.tuple (intsD [-far, -2 * far, -far]), .tuple (intsD [-far, -2 * far, -far]), tp_dp (SqT.of (sp _ _ hg)), tp_dp (ns := [-far, -2 * far, -far]) sqt_new, tp_shaped _, tp_shaped _, _, rfl, ifEqvT (tp_refl _) ?_⟩
    replace XA := XA.trans (LamX.ExtN.of sp)
    replace TA := TA.ext sp
    generalize upd H3 p (.tup [V.int (-far), .int (-2 * far), .int (-far)]) = HG at XA TA ⊢
    clear sp np hg
    refine ⟨TA, fun H1 e1 t1 => ?_⟩
    replace XA := XA.trans e1
    clear TA e1
    refine ⟨(by show 1 ≤ sizeLine; decide), fun q1 n1 => ⟨(by show 1 ≤ sizeLine; decide), fun q2 n2 => ⟨_, rfl, _, rfl, _, rfl, (by show 3 ≤ sizeLine; decide), fun q3 n3 => ?_⟩⟩⟩
    have u1 := same_upd (o := .tup [V.str "sums"]) (Same.refl H1) n1
    have u2 := same_upd (o := .tup [V.ref q1]) (Same.refl _) n2
    have u3 := same_upd (o := .tup [V.int far, .int far, .int far]) (Same.refl _) n3
    refine ⟨.ref q2, .ref q3, rfl, .inl ⟨q2, [.sums], q3, [far, far, far], rfl, chain_sums (sqt_same u3 sqt_new) (sqt_same u3 (sqt_same u2 sqt_new)), fun p hp => (by rw [List.mem_singleton.mp hp]; trivial), hsum, rfl, sqt_new, (by decide +kernel), fun tr H3 s3 hg => ?_⟩⟩
    have s4 := Same.trans (Same.trans (Same.trans u1 u2) u3) s3
    replace XA := XA.trans (LamX.ExtN.of s4)
    have TA := t1.ext s4
    rw [show runM [Stp.sums] [far, far, far] = [far, 2 * far, 3 * far] by decide +kernel] at hg
    clear u1 u2 u3 s3 s4 n1 n2 n3 t1
    refine ⟨_, rfl, _, rfl, _, _, rfl, rfl, .inl ⟨by decide, by decide⟩, _, rfl, _, _, rfl, rfl, .inl ⟨by decide, by decide⟩, (by show 3 ≤ sizeLine; decide), fun p np => ?_⟩
    have sp := same_upd (o := .tup [V.int far, .int (2 * far), .int (3 * far)]) (Same.refl H3) np
    refine ⟨.tuple (intsD [far, 2 * far, 3 * far]), .tuple (intsD [far, 2 * far, 3 * far]), tp_dp (sqt_same sp hg), tp_dp (ns := [far, 2 * far, 3 * far]) sqt_new, tp_shaped _, tp_shaped _, _, rfl, ifEqvT (tp_refl _) ?_⟩
    replace XA := XA.trans (LamX.ExtN.of sp)
    replace TA := TA.ext sp
    generalize upd H3 p (.tup [V.int far, .int (2 * far), .int (3 * far)]) = HI at XA TA ⊢
    clear sp np hg
    refine ⟨TA, fun H1 e1 t1 => ?_⟩
    replace XA := XA.trans e1
    clear TA e1
    refine ⟨(by show 0 ≤ sizeLine; decide), fun q1 n1 => ⟨_, rfl, _, rfl, _, _, rfl, rfl, (by show 1 ≤ sizeLine; decide), fun q2 n2 => ?_⟩⟩
    have u1 := same_upd (o := .tup []) (Same.refl H1) n1
    have u2 := same_upd (o := .tup [V.int (-far - 1)]) (Same.refl _) n2
    refine ⟨.ref q1, .ref q2, rfl, .inr (.inr ⟨some [], some [V.int (-far - 1)], (chain_nil (sqt_same u2 sqt_new)).v, rfl, ⟨q2, rfl, sqt_new, fun y hy => by rw [List.mem_singleton.mp hy]; exact Nice.int _⟩, (by decide +kernel), fun H3 s3 => ⟨c1, 1, "InvalidRow", rfl, rfl, B.em1, B.one1, rfl, fun t H4 s4 e4 => ?_⟩⟩)⟩
    have s5 := Same.trans (Same.trans (Same.trans u1 u2) s3) s4
    replace XA := XA.trans (LamX.ExtN.of s5)
    have t2 := t1.ext s5
    clear u1 u2 s3 s4 s5 n1 n2 t1
    refine ⟨(by show 2 ≤ sizeLine; decide), fun p np => ?_⟩
    have sp := same_upd (o := .tup [.str "error", .str "InvalidRow"]) (Same.refl H4) np
    have esh := erd_shaped "InvalidRow" (by decide +kernel)
    refine ⟨errData "InvalidRow", errData "InvalidRow", err_dp (sp _ _ e4), err_dp upd_same, esh, esh, _, rfl, ifEqvT (SeqAt.eqv_refl _ (SeqAt.canLay_of_shaped esh)) ?_⟩
    replace XA := XA.trans (LamX.ExtN.of sp)
    have TA := t2.ext sp
    generalize upd H4 p (.tup [.str "error", .str "InvalidRow"]) = HE3 at XA TA ⊢
    clear sp np t2 e4 esh
    refine ⟨TA, fun H1 e1 t1 => ?_⟩
    replace XA := XA.trans e1
    clear TA e1
    refine ⟨(by show 0 ≤ sizeLine; decide), fun q1 n1 => ⟨_, rfl, _, _, rfl, rfl, (by show 1 ≤ sizeLine; decide), fun q2 n2 => ?_⟩⟩
    have u1 := same_upd (o := .tup []) (Same.refl H1) n1
    have u2 := same_upd (o := .tup [V.int (far + 1)]) (Same.refl _) n2
    refine ⟨.ref q1, .ref q2, rfl, some [], some [V.int (far + 1)], (chain_nil (sqt_same u2 sqt_new)).v, rfl, ⟨q2, rfl, sqt_new, fun y hy => by rw [List.mem_singleton.mp hy]; exact Nice.int _⟩, (by decide +kernel), fun H3 s3 => ⟨c1, 1, "InvalidRow", rfl, rfl, B.em1, B.one1, rfl, fun t H4 s4 e4 => ?_⟩⟩
    have s5 := Same.trans (Same.trans (Same.trans u1 u2) s3) s4
    replace XA := XA.trans (LamX.ExtN.of s5)
    have t2 := t1.ext s5
    clear u1 u2 s3 s4 s5 n1 n2 t1
    refine ⟨(by show 2 ≤ sizeLine; decide), fun p np => ?_⟩
    have sp := same_upd (o := .tup [.str "error", .str "InvalidRow"]) (Same.refl H4) np
    have esh := erd_shaped "InvalidRow" (by decide +kernel)
    refine ⟨errData "InvalidRow", errData "InvalidRow", err_dp (sp _ _ e4), err_dp upd_same, esh, esh, _, rfl, ifEqvT (SeqAt.eqv_refl _ (SeqAt.canLay_of_shaped esh)) ?_⟩
    replace XA := XA.trans (LamX.ExtN.of sp)
    have TA := t2.ext sp
    generalize upd H4 p (.tup [.str "error", .str "InvalidRow"]) = HE4 at XA TA ⊢
    clear sp np t2 e4 esh
    exact k _ XA TA
end
end FC
set_option Elab.async false
set_option linter.all false
set_option maxRecDepth 100000
set_option maxHeartbeats 1000000
/-! Displays of constants, nested, and what they are as chains. -/
namespace FC
open PySem PySem.Spec PyProof.Rows L2
inductive Lit where
  | non
  | bl (b : Bool)
  | int (i : Int)
  | neg (i : Int)
  | str (z : Str)
  | var (i : Nat) (z : Str)
  | ivar (i : Nat) (n : Int)
  | tup (ls : List Lit)
  | lst (ls : List Lit)
mutual
def LitAt (H : Hp) : V → Lit → Prop
  | x, .non => x = .non
  | x, .bl b => x = .bl b
  | x, .int i => x = .int i
  | x, .neg i => x = .int (-i)
  | x, .str z => x = .str z
  | x, .var _ z => x = .str z
  | x, .ivar _ n => x = .int n
  | x, .tup ls => ∃ a xs, x = .ref a ∧ H a = some (.tup xs) ∧ LitsAt H xs ls
  | x, .lst ls => ∃ a xs, x = .ref a ∧ H a = some (.lst xs) ∧ LitsAt H xs ls
def LitsAt (H : Hp) : List V → List Lit → Prop
  | xs, [] => xs = []
  | xs, l :: ls => ∃ y ys, xs = y :: ys ∧ LitAt H y l ∧ LitsAt H ys ls
end
mutual
theorem LitAt.ext {H H' : Hp} (e : LamX.ExtN H H') : ∀ {x : V} {l : Lit}, LitAt H x l → LitAt H' x l
  | x, .non, h => by unfold LitAt at h ⊢; exact h
  | x, .bl _, h => by unfold LitAt at h ⊢; exact h
  | x, .int _, h => by unfold LitAt at h ⊢; exact h
  | x, .neg _, h => by unfold LitAt at h ⊢; exact h
  | x, .str _, h => by unfold LitAt at h ⊢; exact h
  | x, .var _ _, h => by unfold LitAt at h ⊢; exact h
  | x, .ivar _ _, h => by unfold LitAt at h ⊢; exact h
  | x, .tup ls, h => by
    unfold LitAt at h ⊢
    obtain ⟨a, xs, h1, h2, h3⟩ := h
    exact ⟨a, xs, h1, e _ _ h2 (fun ps z => by cases z), LitsAt.ext e h3⟩
  | x, .lst ls, h => by
    unfold LitAt at h ⊢
    obtain ⟨a, xs, h1, h2, h3⟩ := h
    exact ⟨a, xs, h1, e _ _ h2 (fun ps z => by cases z), LitsAt.ext e h3⟩
theorem LitsAt.ext {H H' : Hp} (e : LamX.ExtN H H') : ∀ {xs : List V} {ls : List Lit}, LitsAt H xs ls → LitsAt H' xs ls
  | xs, [], h => by unfold LitsAt at h ⊢; exact h
  | xs, l :: ls, h => by
    unfold LitsAt at h ⊢
    obtain ⟨y, ys, h1, h2, h3⟩ := h
    exact ⟨y, ys, h1, LitAt.ext e h2, LitsAt.ext e h3⟩
end
mutual
def tLit : Lit → TE
  | .non => tC .non
  | .bl b => tC (.bl b)
  | .int i => tC (.int i)
  | .neg i => tUn (rU fun i => .int (-i)) (tC (.int i))
  | .str z => tC (.str z)
  | .var i _ => tVar i
  | .ivar i _ => tVar i
  | .tup ls => tTup (tLits ls)
  | .lst ls => tLst (tLits ls)
def tLits : List Lit → TA
  | [] => tNil
  | l :: ls => tCons (tLit l) (tLits ls)
end
mutual
/-- the slots that it names hold what it says, no display is long -/
def Fits (σ : L2.St) : Lit → Prop
  | .var i z => σ[i]? = some (some (.str z))
  | .ivar i n => σ[i]? = some (some (.int n))
  | .tup ls => ls.length ≤ 1000 ∧ FitsAll σ ls
  | .lst ls => ls.length ≤ 1000 ∧ FitsAll σ ls
  | _ => True
def FitsAll (σ : L2.St) : List Lit → Prop
  | [] => True
  | l :: ls => Fits σ l ∧ FitsAll σ ls
end
mutual
theorem lit_reads : ∀ (l : Lit) (σ : L2.St) (H : Hp) (Q : VK), Fits σ l → (∀ x H', Same H H' → LitAt H' x l → Q x H') → tLit l σ H Q
  | .non, σ, H, Q, _, k => by unfold tLit; exact k _ H (Same.refl H) (by unfold LitAt; rfl)
  | .bl _, σ, H, Q, _, k => by unfold tLit; exact k _ H (Same.refl H) (by unfold LitAt; rfl)
  | .int _, σ, H, Q, _, k => by unfold tLit; exact k _ H (Same.refl H) (by unfold LitAt; rfl)
  | .neg i, σ, H, Q, _, k => by unfold tLit; exact ⟨i, rfl, k _ H (Same.refl H) (by unfold LitAt; rfl)⟩
  | .str _, σ, H, Q, _, k => by unfold tLit; exact k _ H (Same.refl H) (by unfold LitAt; rfl)
  | .var i z, σ, H, Q, f, k => by unfold tLit; unfold Fits at f; exact ⟨_, f, k _ H (Same.refl H) (by unfold LitAt; rfl)⟩
  | .ivar i n, σ, H, Q, f, k => by unfold tLit; unfold Fits at f; exact ⟨_, f, k _ H (Same.refl H) (by unfold LitAt; rfl)⟩
  | .tup ls, σ, H, Q, f, k => by
    unfold tLit
    unfold Fits at f
    refine lits_reads ls σ H _ f.2 fun xs H1 s1 h1 hlen => ⟨by
      have h4 : 4000 < sizeLine := by decide
      have := f.1
      omega, fun p np => k _ _ (same_upd s1 np) ?_⟩
    unfold LitAt
    exact ⟨p, xs, rfl, upd_same, LitsAt.ext (LamX.ExtN.of (same_upd (Same.refl H1) np)) h1⟩
  | .lst ls, σ, H, Q, f, k => by
    unfold tLit
    unfold Fits at f
    refine lits_reads ls σ H _ f.2 fun xs H1 s1 h1 hlen => ⟨by
      have h4 : 4000 < sizeLine := by decide
      have := f.1
      omega, fun p np => k _ _ (same_upd s1 np) ?_⟩
    unfold LitAt
    exact ⟨p, xs, rfl, upd_same, LitsAt.ext (LamX.ExtN.of (same_upd (Same.refl H1) np)) h1⟩
theorem lits_reads : ∀ (ls : List Lit) (σ : L2.St) (H : Hp) (Q : List V → Hp → Prop), FitsAll σ ls → (∀ xs H', Same H H' → LitsAt H' xs ls → xs.length = ls.length → Q xs H') → tLits ls σ H Q
  | [], σ, H, Q, _, k => by unfold tLits; exact k [] H (Same.refl H) (by unfold LitsAt; rfl) rfl
  | l :: ls, σ, H, Q, f, k => by
    unfold tLits
    unfold FitsAll at f
    refine lit_reads l σ H _ f.1 fun x H1 s1 h1 => lits_reads ls σ H1 _ f.2 fun xs H2 s2 h2 hl => k (x :: xs) H2 (Same.trans s1 s2) ?_ (by rw [List.length_cons, List.length_cons, hl])
    unfold LitsAt
    exact ⟨x, xs, rfl, LitAt.ext (LamX.ExtN.of s2) h1, h2⟩
end
/-! ### as chains -/
def litV : Lit → V
  | .non => .non
  | .bl b => .bl b
  | .int i => .int i
  | .neg i => .int (-i)
  | .str z => .str z
  | .var _ z => .str z
  | .ivar _ n => .int n
  | .tup _ => .ref 0
  | .lst _ => .ref 0
def litStep : Lit → Option (List V)
  | .tup ls => some (ls.map litV)
  | _ => none
def litOo : Lit → Option (List (Option (List V)))
  | .tup ls => some (ls.map litStep)
  | _ => none
def erase : V → V
  | .ref _ => .ref 0
  | x => x
theorem within_erase : ∀ (ls : List Str) (xs : List V) (a : Int), within ls (xs.map erase) a = within ls xs a
  | [], [], _ => rfl
  | [], x :: r, _ => by cases x <;> rfl
  | l :: ls, [], _ => rfl
  | l :: ls, x :: r, a => by
    cases x <;> first | rfl | skip
    rename_i n
    show (!(decide (n < (lohi l a).1) || decide (n > (lohi l a).2)) && within ls (r.map erase) n) = (!(decide (n < (lohi l a).1) || decide (n > (lohi l a).2)) && within ls r n)
    rw [within_erase ls r n]
theorem stepOk_erase (ys : List V) : stepOk (ys.map erase) = stepOk ys := by
  match ys with
  | [] => rfl
  | x :: r =>
    cases x <;> first | rfl | skip
    rename_i name
    show stepOkN name (r.map erase) = stepOkN name r
    unfold stepOkN
    cases tab.lookup name with
    | none => rfl
    | some ls =>
      show (decide (ls.length = (r.map erase).length) && within ls (r.map erase) 0) = (decide (ls.length = r.length) && within ls r 0)
      rw [List.length_map, within_erase]
theorem headIn_erase (names : List Str) (ys : List V) : headIn names (ys.map erase) = headIn names ys := by
  match ys with
  | [] => rfl
  | x :: r => cases x <;> rfl
def eraseO (o : Option (List V)) : Option (List V) := o.map (·.map erase)
theorem stepOkO_erase (o : Option (List V)) : stepOkO (eraseO o) = stepOkO o := by
  cases o with
  | none => rfl
  | some ys => exact stepOk_erase ys
theorem filt_erase (p : Nat × List Str) : ∀ os : List (Option (List V)), (((os.map eraseO).filterMap id).filter (headIn p.2)).length = ((os.filterMap id).filter (headIn p.2)).length
  | [] => rfl
  | none :: r => filt_erase p r
  | some ys :: r => by
    have ih := filt_erase p r
    have e1 : ((some ys :: r).map eraseO).filterMap id = (ys.map erase) :: (r.map eraseO).filterMap id := rfl
    have e2 : (some ys :: r).filterMap id = ys :: r.filterMap id := rfl
    rw [e1, e2, List.filter_cons, List.filter_cons, headIn_erase]
    cases headIn p.2 ys with
    | true =>
      show (_ :: _).length = (_ :: _).length
      rw [List.length_cons, List.length_cons, ih]
    | false => exact ih
theorem limOk_erase (os : List (Option (List V))) : limOk ((os.map eraseO).filterMap id) = limOk (os.filterMap id) := by
  unfold limOk
  congr 1
  funext p
  rw [filt_erase]
theorem chainOkL_erase (os : List (Option (List V))) : chainOkL (os.map eraseO) = chainOkL os := by
  unfold chainOkL
  rw [List.length_map, limOk_erase]
  congr 2
  induction os with
  | nil => rfl
  | cons o r ih => rw [List.map_cons, List.all_cons, List.all_cons, stepOkO_erase, ih]
theorem flat_at {K : PySem.W.Frag} {H : Hp} : ∀ {xs : List V} {ls : List Lit}, LitsAt H xs ls → xs.map erase = ls.map litV ∧ ∀ x ∈ xs, Nice K H x
  | xs, [], h => by
    unfold LitsAt at h
    subst h
    exact ⟨rfl, fun x h => by cases h⟩
  | xs, l :: ls, h => by
    unfold LitsAt at h
    obtain ⟨y, ys, rfl, h1, h2⟩ := h
    obtain ⟨i1, i2⟩ := flat_at (K := K) h2
    have hy : erase y = litV l ∧ Nice K H y := by
      cases l <;> unfold LitAt at h1
      · subst h1; exact ⟨rfl, Nice.non⟩
      · subst h1; exact ⟨rfl, Nice.bl _⟩
      · subst h1; exact ⟨rfl, Nice.int _⟩
      · subst h1; exact ⟨rfl, Nice.int _⟩
      · subst h1; exact ⟨rfl, Nice.str _⟩
      · subst h1; exact ⟨rfl, Nice.str _⟩
      · subst h1; exact ⟨rfl, Nice.int _⟩
      · obtain ⟨a, zs, rfl, h3, _⟩ := h1
        exact ⟨rfl, Nice.tup (SqT.of h3)⟩
      · obtain ⟨a, zs, rfl, h3, _⟩ := h1
        exact ⟨rfl, ⟨"list", by decide, .base (.lst h3)⟩⟩
    refine ⟨by rw [List.map_cons, List.map_cons, hy.1, i1], fun x hx => ?_⟩
    rcases List.mem_cons.mp hx with e | e
    · rw [e]
      exact hy.2
    · exact i2 x e
theorem step_at {K : PySem.W.Frag} {H : Hp} {x : V} {l : Lit} (h : LitAt H x l) : ∃ o, StepV K H x o ∧ eraseO o = litStep l := by
  cases l <;> unfold LitAt at h
  · subst h; exact ⟨none, ⟨"NoneType", by decide, by decide, .base .non⟩, rfl⟩
  · subst h; exact ⟨none, ⟨"bool", by decide, by decide, .base (.bl _)⟩, rfl⟩
  · subst h; exact ⟨none, ⟨"int", by decide, by decide, .base (.int _)⟩, rfl⟩
  · subst h; exact ⟨none, ⟨"int", by decide, by decide, .base (.int _)⟩, rfl⟩
  · subst h; exact ⟨none, ⟨"str", by decide, by decide, .base (.str _)⟩, rfl⟩
  · subst h; exact ⟨none, ⟨"str", by decide, by decide, .base (.str _)⟩, rfl⟩
  · subst h; exact ⟨none, ⟨"int", by decide, by decide, .base (.int _)⟩, rfl⟩
  · obtain ⟨a, xs, rfl, h1, h2⟩ := h
    obtain ⟨i1, i2⟩ := flat_at (K := K) h2
    exact ⟨some xs, ⟨a, rfl, SqT.of h1, i2⟩, by show some (xs.map erase) = some _; rw [i1]⟩
  · obtain ⟨a, xs, rfl, h1, h2⟩ := h
    exact ⟨none, ⟨"list", by decide, by decide, .base (.lst h1)⟩, rfl⟩
theorem steps_at {K : PySem.W.Frag} {H : Hp} : ∀ {xs : List V} {ls : List Lit}, LitsAt H xs ls → ∃ os, Steps K H xs os ∧ os.map eraseO = ls.map litStep
  | xs, [], h => by
    unfold LitsAt at h
    subst h
    exact ⟨[], ⟨rfl, fun i x o h _ => by simp at h⟩, rfl⟩
  | xs, l :: ls, h => by
    unfold LitsAt at h
    obtain ⟨y, ys, rfl, h1, h2⟩ := h
    obtain ⟨o, o1, o2⟩ := step_at (K := K) h1
    obtain ⟨os, i1, i2⟩ := steps_at (K := K) h2
    refine ⟨o :: os, ⟨by rw [List.length_cons, List.length_cons, i1.len], fun i x p hx hp => ?_⟩, by rw [List.map_cons, List.map_cons, o2, i2]⟩
    match i, hx, hp with
    | 0, hx, hp =>
      cases hx
      cases hp
      exact o1
    | i + 1, hx, hp => exact i1.at_ i x p (by simpa using hx) (by simpa using hp)
/-- a display is a chain just if its own words say so -/
theorem lit_chain {K : PySem.W.Frag} {H : Hp} {x : V} {l : Lit} (h : LitAt H x l) : ∃ oo, ChainV K H x oo ∧ chainOkO oo = chainOkO (litOo l) := by
  cases l <;> unfold LitAt at h
  · subst h; exact ⟨none, ⟨"NoneType", by decide, by decide, .base .non⟩, rfl⟩
  · subst h; exact ⟨none, ⟨"bool", by decide, by decide, .base (.bl _)⟩, rfl⟩
  · subst h; exact ⟨none, ⟨"int", by decide, by decide, .base (.int _)⟩, rfl⟩
  · subst h; exact ⟨none, ⟨"int", by decide, by decide, .base (.int _)⟩, rfl⟩
  · subst h; exact ⟨none, ⟨"str", by decide, by decide, .base (.str _)⟩, rfl⟩
  · subst h; exact ⟨none, ⟨"str", by decide, by decide, .base (.str _)⟩, rfl⟩
  · subst h; exact ⟨none, ⟨"int", by decide, by decide, .base (.int _)⟩, rfl⟩
  · obtain ⟨a, xs, rfl, h1, h2⟩ := h
    obtain ⟨os, i1, i2⟩ := steps_at (K := K) h2
    exact ⟨some os, ⟨a, xs, rfl, SqT.of h1, i1⟩, by show chainOkL os = chainOkL _; rw [← i2, chainOkL_erase]⟩
  · obtain ⟨a, xs, rfl, h1, h2⟩ := h
    exact ⟨none, ⟨"list", by decide, by decide, .base (.lst h1)⟩, rfl⟩
/-- no chain, as long as no known object changes -/
def BadC (K : PySem.W.Frag) (H : Hp) (x : V) : Prop := ∀ H', LamX.ExtN H H' → ∃ oo, ChainV K H' x oo ∧ chainOkO oo = false
theorem BadC.ext {K : PySem.W.Frag} {H H' : Hp} {x : V} (b : BadC K H x) (e : LamX.ExtN H H') : BadC K H' x := fun H2 e2 => b H2 (e.trans e2)
theorem badC_lit {K : PySem.W.Frag} {H : Hp} {x : V} {l : Lit} (h : LitAt H x l) (hb : chainOkO (litOo l) = false) : BadC K H x := fun H' e => by
  obtain ⟨oo, h1, h2⟩ := lit_chain (K := K) (LitAt.ext e h)
  exact ⟨oo, h1, h2.trans hb⟩
theorem badC_lits {K : PySem.W.Frag} {H : Hp} : ∀ {xs : List V} {ls : List Lit}, LitsAt H xs ls → (ls.all fun l => !chainOkO (litOo l)) = true → ∀ x ∈ xs, BadC K H x
  | xs, [], h, _, x, hx => by
    unfold LitsAt at h
    subst h
    cases hx
  | xs, l :: ls, h, hb, x, hx => by
    unfold LitsAt at h
    obtain ⟨y, ys, rfl, h1, h2⟩ := h
    rw [List.all_cons, Bool.and_eq_true] at hb
    rcases List.mem_cons.mp hx with e | e
    · rw [e]
      exact badC_lit h1 (by simpa using hb.1)
    · exact badC_lits h2 hb.2 x e
theorem bad_appC {K : PySem.W.Frag} {H : Hp} {xs ys : List V} (h : ∀ v ∈ xs, BadC K H v) (t : ∀ v ∈ ys, BadC K H v) : ∀ v ∈ xs ++ ys, BadC K H v := fun v hv => (List.mem_append.mp hv).elim (h v) (t v)
/-- bad = bad + [..] -/
theorem cat_lits {K : PySem.W.Frag} {i : Nat} {σ : L2.St} {H : Hp} {D : Ends} {l : Addr} {L : List V} (ls : List Lit) (hσ : σ[i]? = some (some (.ref l))) (hl : H l = some (.lst L)) (hL : ∀ v ∈ L, BadC K H v) (hlen : L.length ≤ 1000) (h1 : ls.length ≤ 1000) (f : FitsAll σ ls) (hb : (ls.all fun l => !chainOkO (litOo l)) = true)
    (go : ∀ p L' Hm H', Same H Hm → Same Hm H' → Hm p = none → H' p = some (.lst L') → (∀ v ∈ L', BadC K Hm v) → L'.length = L.length + ls.length → D.nx (σ.set i (some (.ref p))) H') : tAsg (tOp rCat (tVar i) (tLst (tLits ls))) (gName i) D σ H := by
  have hsl : 4000 < sizeLine := by decide
  refine ⟨_, hσ, lits_reads ls σ H _ f fun xs H1 s1 h1' hx => ⟨by omega, fun q nq => ⟨l, q, L, xs, rfl, rfl, (upd_ne (ne_of_none (s1 _ _ hl) nq)).trans (s1 _ _ hl), upd_same, by omega, fun p np => ?_⟩⟩⟩
  have s2 := same_upd (o := .lst xs) s1 nq
  have s3 := same_upd (o := .lst xs) (Same.refl H1) nq
  exact go p (L ++ xs) _ _ s2 (same_upd (Same.refl _) np) np upd_same (bad_appC (fun v hv => (hL v hv).ext (LamX.ExtN.of s2)) (badC_lits (LitsAt.ext (LamX.ExtN.of s3) h1') hb)) (by rw [List.length_append, hx])
mutual
/-- no lists in it -/
def noL : Lit → Bool
  | .lst _ => false
  | .tup ls => noLs ls
  | _ => true
def noLs : List Lit → Bool
  | [] => true
  | l :: ls => noL l && noLs ls
end
mutual
theorem LitAt.keepL {H H' : Hp} {d : Addr} {L : List V} (hd : H d = some (.lst L)) (e : ∀ b o, H b = some o → b ≠ d → H' b = some o) : ∀ {x : V} {l : Lit}, noL l = true → LitAt H x l → LitAt H' x l
  | x, .non, _, h => by unfold LitAt at h ⊢; exact h
  | x, .bl _, _, h => by unfold LitAt at h ⊢; exact h
  | x, .int _, _, h => by unfold LitAt at h ⊢; exact h
  | x, .neg _, _, h => by unfold LitAt at h ⊢; exact h
  | x, .str _, _, h => by unfold LitAt at h ⊢; exact h
  | x, .var _ _, _, h => by unfold LitAt at h ⊢; exact h
  | x, .ivar _ _, _, h => by unfold LitAt at h ⊢; exact h
  | x, .tup ls, n, h => by
    unfold LitAt at h ⊢
    unfold noL at n
    obtain ⟨a, xs, h1, h2, h3⟩ := h
    exact ⟨a, xs, h1, e _ _ h2 (ne_of h2 hd (by intro z; cases z)), LitsAt.keepL hd e n h3⟩
  | x, .lst ls, n, h => by
    unfold noL at n
    cases n
theorem LitsAt.keepL {H H' : Hp} {d : Addr} {L : List V} (hd : H d = some (.lst L)) (e : ∀ b o, H b = some o → b ≠ d → H' b = some o) : ∀ {xs : List V} {ls : List Lit}, noLs ls = true → LitsAt H xs ls → LitsAt H' xs ls
  | xs, [], _, h => by unfold LitsAt at h ⊢; exact h
  | xs, l :: ls, n, h => by
    unfold LitsAt at h ⊢
    unfold noLs at n
    rw [Bool.and_eq_true] at n
    obtain ⟨y, ys, h1, h2, h3⟩ := h
    exact ⟨y, ys, h1, LitAt.keepL hd e n.1 h2, LitsAt.keepL hd e n.2 h3⟩
end
theorem LitsAt.get {H : Hp} : ∀ {xs : List V} {ls : List Lit}, LitsAt H xs ls → xs.length = ls.length ∧ ∀ (i : Nat) (x : V) (l : Lit), xs[i]? = some x → ls[i]? = some l → LitAt H x l
  | xs, [], h => by
    unfold LitsAt at h
    subst h
    exact ⟨rfl, fun i x l h _ => by simp at h⟩
  | xs, l :: ls, h => by
    unfold LitsAt at h
    obtain ⟨y, ys, rfl, h1, h2⟩ := h
    obtain ⟨i1, i2⟩ := LitsAt.get h2
    refine ⟨by rw [List.length_cons, List.length_cons, i1], fun i x m hx hm => ?_⟩
    match i, hx, hm with
    | 0, hx, hm =>
      cases hx
      cases hm
      exact h1
    | i + 1, hx, hm => exact i2 i x m (by simpa using hx) (by simpa using hm)
theorem LitsAt.snoc {H : Hp} : ∀ {xs : List V} {ls : List Lit} {x : V} {l : Lit}, LitsAt H xs ls → LitAt H x l → LitsAt H (xs ++ [x]) (ls ++ [l])
  | xs, [], x, l, h, hx => by
    unfold LitsAt at h
    subst h
    show LitsAt H [x] [l]
    unfold LitsAt
    exact ⟨x, [], rfl, hx, by unfold LitsAt; rfl⟩
  | xs, m :: ls, x, l, h, hx => by
    unfold LitsAt at h
    obtain ⟨y, ys, rfl, h1, h2⟩ := h
    show LitsAt H (y :: (ys ++ [x])) (m :: (ls ++ [l]))
    unfold LitsAt
    exact ⟨y, ys ++ [x], rfl, h1, LitsAt.snoc h2 hx⟩
theorem LitsAt.append {H : Hp} : ∀ {xs ys : List V} {ls ms : List Lit}, LitsAt H xs ls → LitsAt H ys ms → LitsAt H (xs ++ ys) (ls ++ ms)
  | xs, ys, [], ms, h, h2 => by
    unfold LitsAt at h
    subst h
    exact h2
  | xs, ys, l :: ls, ms, h, h2 => by
    unfold LitsAt at h
    obtain ⟨x, r, rfl, h1, h3⟩ := h
    show LitsAt H (x :: (r ++ ys)) (l :: (ls ++ ms))
    unfold LitsAt
    exact ⟨x, r ++ ys, rfl, h1, LitsAt.append h3 h2⟩
/-- x = [..] -/
theorem set_lits {i : Nat} {σ : L2.St} {H : Hp} {D : Ends} (ls : List Lit) (f : FitsAll σ ls) (h1 : ls.length ≤ 1000) (go : ∀ p xs H1, Same H H1 → LitsAt H1 xs ls → xs.length = ls.length → H1 p = none → D.nx (σ.set i (some (.ref p))) (upd H1 p (.lst xs))) :
    tAsg (tLst (tLits ls)) (gName i) D σ H := by
  have hsl : 4000 < sizeLine := by decide
  exact lits_reads ls σ H _ f fun xs H1 s1 h2 hx => ⟨by omega, fun p np => go p xs H1 s1 h2 hx np⟩
end FC
set_option Elab.async false
set_option linter.all false
set_option maxRecDepth 100000
set_option maxHeartbeats 4000000
/-! Steps with one thing wrong; the steps that the law draws. -/
namespace FC
open PySem PySem.Spec PyProof.Rows L2
def BadN : V → Prop
  | .int n => n < -9 ∨ 9 < n
  | _ => True
theorem within_bad : ∀ (ls : List Str) (pre post : List V) (v : V) (a : Int), a ≤ 9 → (∀ x ∈ pre, ∃ n : Int, x = .int n ∧ n ≤ 9) → BadN v → within ls (pre ++ v :: post) a = false
  | [], [], post, v, a, _, _, _ => by cases v <;> rfl
  | [], x :: pre, post, v, a, _, _, _ => by cases x <;> rfl
  | l :: ls, [], post, v, a, ha, _, hb => by
    cases v <;> first | rfl | skip
    rename_i n
    obtain ⟨h1, h2⟩ := lohi_in l a ha
    have hb : n < -9 ∨ 9 < n := hb
    show (!(decide (n < (lohi l a).1) || decide (n > (lohi l a).2)) && within ls post n) = false
    rcases hb with hb | hb
    · rw [decide_eq_true (show n < (lohi l a).1 by omega)]
      rfl
    · rw [decide_eq_true (show n > (lohi l a).2 by omega), Bool.or_true]
      rfl
  | l :: ls, x :: pre, post, v, a, ha, hp, hb => by
    obtain ⟨n, rfl, hn⟩ := hp x List.mem_cons_self
    show (!(decide (n < (lohi l a).1) || decide (n > (lohi l a).2)) && within ls (pre ++ v :: post) n) = false
    rw [within_bad ls pre post v n hn (fun y hy => hp y (List.mem_cons_of_mem _ hy)) hb, Bool.and_false]
theorem step_bad {name : Str} {ns : List Int} (hn : ∀ n ∈ ns, n ≤ 9) {k : Nat} {v : V} (hb : BadN v) {post : List V} : stepOk (.str name :: ((ns.map V.int).take k ++ v :: post)) = false := by
  show stepOkN name ((ns.map V.int).take k ++ v :: post) = false
  unfold stepOkN
  cases tab.lookup name with
  | none => rfl
  | some ls =>
    show (_ && within ls ((ns.map V.int).take k ++ v :: post) 0) = false
    rw [within_bad ls _ post v 0 (by decide) (fun x hx => by
      obtain ⟨n, hn', e⟩ := List.mem_map.mp (List.mem_of_mem_take hx)
      exact ⟨n, e.symm, hn n hn'⟩) hb, Bool.and_false]
theorem step_len {name : Str} {xs ys : List V} (h : stepOk (.str name :: xs) = true) (hl : ys.length ≠ xs.length) : stepOk (.str name :: ys) = false := by
  have h : stepOkN name xs = true := h
  show stepOkN name ys = false
  unfold stepOkN at h ⊢
  cases e : tab.lookup name with
  | none => rfl
  | some ls =>
    rw [e] at h
    have h : (decide (ls.length = xs.length) && within ls xs 0) = true := h
    rw [Bool.and_eq_true] at h
    have h1 := of_decide_eq_true h.1
    show (decide (ls.length = ys.length) && within ls ys 0) = false
    rw [decide_eq_false (by omega)]
    rfl
theorem lim_one (ys : List V) : limOk [ys] = true := by
  refine List.all_eq_true.mpr fun p hp => decide_eq_true ?_
  have h : ([ys].filter (headIn p.2)).length ≤ 1 := List.length_filter_le _ _
  have all : ∀ p ∈ lims, 1 ≤ p.1 := by decide
  exact Nat.le_trans h (all p hp)
theorem chain_one (ys : List V) : chainOk [ys] = stepOk ys := by
  show (true && ((stepOk ys && true) && limOk [ys])) = stepOk ys
  rw [lim_one, Bool.and_true, Bool.and_true, Bool.true_and]
theorem text_one (ys : List V) : chainText [ys] = stepText ys := by
  unfold chainText
  rw [TL.join_eq]
  exact TL.ext_tl (TL.tl_join _ _)
theorem parse_one {ys : List V} (h : stepOk ys = true) : parse (stepText ys) = [ys] := by
  rw [← text_one, parse_text ((chain_one ys).trans h)]
/-- the one step (step,) as a chain -/
theorem chain_tup {K : PySem.W.Frag} {H : Hp} {p b : Addr} {ys : List V} (hp : SqT K H p [.ref b]) (hb : SqT K H b ys) (hn : ∀ y ∈ ys, Nice K H y) : ChainV K H (.ref p) (some [some ys]) := ⟨p, [.ref b], rfl, hp, rfl, fun i x o hx ho => by
  match i, hx, ho with
  | 0, hx, ho =>
    cases hx
    cases ho
    exact ⟨b, rfl, hb, hn⟩
  | n + 1, hx, ho => simp at hx⟩
theorem oneOk (ys : List V) : chainOkO (some [some ys]) = stepOk ys := (chainOkL_some [ys]).trans (chain_one ys)
/-! ### displays of flat things -/
def flatL : Lit → Bool
  | .tup _ => false
  | .lst _ => false
  | _ => true
theorem flat_lits {H : Hp} : ∀ {xs : List V} {ls : List Lit}, ls.all flatL = true → LitsAt H xs ls → xs = ls.map litV
  | xs, [], _, h => by
    unfold LitsAt at h
    rw [h]; rfl
  | xs, l :: ls, f, h => by
    unfold LitsAt at h
    rw [List.all_cons, Bool.and_eq_true] at f
    obtain ⟨y, ys, rfl, h1, h2⟩ := h
    rw [List.map_cons, ← flat_lits f.2 h2]
    have : y = litV l := by
      cases l <;> first | (unfold LitAt at h1; exact h1) | (exact absurd f.1 (by unfold flatL; exact Bool.false_ne_true))
    rw [this]
def rowV : Lit → List V
  | .tup xs => xs.map litV
  | _ => []
def rowF : Lit → Bool
  | .tup xs => xs.all flatL
  | _ => false
def rowsV (ls : List Lit) : List (List V) := ls.map rowV
def rowsF (ls : List Lit) : Bool := ls.all rowF
/-- each item of L is a step of the rows -/
def StepsL (H : Hp) (L : List V) (rows : List (List V)) : Prop := ∀ x ∈ L, ∃ b ys, x = .ref b ∧ ys ∈ rows ∧ H b = some (.tup ys)
theorem StepsL.ext {H H' : Hp} {L : List V} {rows : List (List V)} (e : LamX.ExtN H H') (h : StepsL H L rows) : StepsL H' L rows := fun x hx => by
  obtain ⟨b, ys, e1, e2, e3⟩ := h x hx
  exact ⟨b, ys, e1, e2, e _ _ e3 (fun ps z => by cases z)⟩
theorem steps_lits {H : Hp} : ∀ {L : List V} {ls : List Lit}, rowsF ls = true → LitsAt H L ls → StepsL H L (rowsV ls)
  | L, [], _, h => by
    unfold LitsAt at h
    subst h
    exact fun x hx => by cases hx
  | L, l :: ls, f, h => by
    unfold LitsAt at h
    have f : (rowF l && rowsF ls) = true := f
    rw [Bool.and_eq_true] at f
    obtain ⟨y, ys, rfl, h1, h2⟩ := h
    intro x hx
    rcases List.mem_cons.mp hx with e | e
    · subst e
      obtain ⟨xs, rfl⟩ : ∃ xs, l = .tup xs := by
        cases l <;> first | exact ⟨_, rfl⟩ | exact absurd f.1 Bool.false_ne_true
      unfold LitAt at h1
      obtain ⟨b, zs, rfl, hb, h3⟩ := h1
      exact ⟨b, xs.map litV, rfl, List.mem_cons_self, by rw [hb, flat_lits f.1 h3]⟩
    · obtain ⟨b, zs, e1, e2, e3⟩ := steps_lits f.2 h2 x e
      exact ⟨b, zs, e1, List.mem_cons_of_mem _ e2, e3⟩
theorem StepsL.app {H : Hp} {L M : List V} {r s : List (List V)} (h : StepsL H L r) (g : StepsL H M s) : StepsL H (L ++ M) (r ++ s) := fun x hx => by
  rcases List.mem_append.mp hx with z | z
  · obtain ⟨b, ys, e1, e2, e3⟩ := h x z
    exact ⟨b, ys, e1, List.mem_append_left _ e2, e3⟩
  · obtain ⟨b, ys, e1, e2, e3⟩ := g x z
    exact ⟨b, ys, e1, List.mem_append_right _ e2, e3⟩
/-- x = x + [..] -/
theorem cat_rows {i : Nat} {σ : L2.St} {H : Hp} {D : Ends} {l : Addr} {L : List V} {r0 : List (List V)} (ls : List Lit) (hσ : σ[i]? = some (some (.ref l))) (hl : H l = some (.lst L)) (hL : StepsL H L r0) (h0 : L.length ≤ 1000) (h1 : ls.length ≤ 1000) (f : FitsAll σ ls) (hf : rowsF ls = true)
    (go : ∀ p L' H', Same H H' → H' p = some (.lst L') → StepsL H' L' (r0 ++ rowsV ls) → L'.length = L.length + ls.length → D.nx (σ.set i (some (.ref p))) H') : tAsg (tOp rCat (tVar i) (tLst (tLits ls))) (gName i) D σ H := by
  have hsl : 4000 < sizeLine := by decide
  refine ⟨_, hσ, lits_reads ls σ H _ f fun xs H1 s1 h1' hx => ⟨by omega, fun q nq => ⟨l, q, L, xs, rfl, rfl, (upd_ne (ne_of_none (s1 _ _ hl) nq)).trans (s1 _ _ hl), upd_same, by omega, fun p np => ?_⟩⟩⟩
  have s2 := same_upd (o := .lst (L ++ xs)) (same_upd (o := .lst xs) s1 nq) np
  have s3 := same_upd (o := .lst (L ++ xs)) (same_upd (o := .lst xs) (Same.refl H1) nq) np
  exact go p (L ++ xs) _ s2 upd_same (StepsL.app (hL.ext (LamX.ExtN.of s2)) ((steps_lits hf h1').ext (LamX.ExtN.of s3))) (by rw [List.length_append, hx])
/-! ### what the law draws -/
def goodA (m r a b : Int) : List Lit := [.tup [.str "turn", .ivar 2 m, .ivar 5 r, .ivar 3 a, .ivar 4 b], .tup [.str "turn", .ivar 2 m, .ivar 5 r, .int 3, .neg 9], .tup [.str "turn", .int 3, .int 2, .neg 3, .int 9], .tup [.str "line", .ivar 3 a, .ivar 4 b]]
def goodB (m r : Int) : List Lit := [.tup [.str "keep", .ivar 2 m, .ivar 5 r], .tup [.str "anew", .ivar 2 m, .ivar 5 r], .tup [.str "every", .ivar 2 m, .ivar 5 r], .tup [.str "groups", .ivar 2 m]]
def caseA (m : Int) : List Lit := [.tup [.str "turn", .int 4, .int 0, .int 1, .int 0], .tup [.str "turn", .int 1, .int 0, .int 1, .int 0], .tup [.str "turn", .ivar 2 m, .ivar 2 m, .int 1, .int 0]]
def caseB (m r : Int) : List Lit := [.tup [.str "turn", .ivar 2 m, .neg 1, .int 1, .int 0], .tup [.str "turn", .ivar 2 m, .ivar 5 r, .int 4, .int 0], .tup [.str "turn", .ivar 2 m, .ivar 5 r, .int 0, .int 10]]
def goods (m r a b : Int) : List (List V) := rowsV (goodA m r a b) ++ rowsV (goodB m r)
def cases21 (m r : Int) : List (List V) := rowsV (caseA m) ++ rowsV (caseB m r)
theorem goods_ok {m r a b : Int} (hm : m = 2 ∨ m = 3) (r0 : 0 ≤ r) (r1 : r < m) (a0 : -3 ≤ a) (a1 : a ≤ 3) (b0 : -9 ≤ b) (b1 : b ≤ 9) : ∀ ys ∈ goods m r a b, stepOk ys = true := by
  have h2 : ∀ r : Fin 2, ∀ a : Fin 7, ∀ b : Fin 19, (goods 2 r.val (a.val - 3) (b.val - 9)).all stepOk = true := by decide +kernel
  have h3 : ∀ r : Fin 3, ∀ a : Fin 7, ∀ b : Fin 19, (goods 3 r.val (a.val - 3) (b.val - 9)).all stepOk = true := by decide +kernel
  have ea : ((a + 3).toNat : Int) - 3 = a := by omega
  have eb : ((b + 9).toNat : Int) - 9 = b := by omega
  have er : (r.toNat : Int) = r := by omega
  rcases hm with rfl | rfl
  · have := h2 ⟨r.toNat, by omega⟩ ⟨(a + 3).toNat, by omega⟩ ⟨(b + 9).toNat, by omega⟩
    rw [ea, eb, er] at this
    exact List.all_eq_true.mp this
  · have := h3 ⟨r.toNat, by omega⟩ ⟨(a + 3).toNat, by omega⟩ ⟨(b + 9).toNat, by omega⟩
    rw [ea, eb, er] at this
    exact List.all_eq_true.mp this
theorem cases_no {m r : Int} (hm : m = 2 ∨ m = 3) (r0 : 0 ≤ r) (r1 : r < m) : ∀ ys ∈ cases21 m r, stepOk ys = false := by
  have h2 : ∀ r : Fin 2, (cases21 2 r.val).all (fun ys => !stepOk ys) = true := by decide +kernel
  have h3 : ∀ r : Fin 3, (cases21 3 r.val).all (fun ys => !stepOk ys) = true := by decide +kernel
  have er : (r.toNat : Int) = r := by omega
  intro ys hy
  rcases hm with rfl | rfl
  · have := h2 ⟨r.toNat, by omega⟩
    rw [er] at this
    have := List.all_eq_true.mp this ys hy
    simpa using this
  · have := h3 ⟨r.toNat, by omega⟩
    rw [er] at this
    have := List.all_eq_true.mp this ys hy
    simpa using this
theorem cases_flat {m r : Int} : ∀ ys ∈ cases21 m r, ∀ {K : PySem.W.Frag} {H : Hp}, ∀ y ∈ ys, Nice K H y := by
  intro ys hy K H y hyy
  simp only [cases21, rowsV, rowV, caseA, caseB, litV, List.map_cons, List.map_nil, List.mem_append, List.mem_cons, List.mem_nil_iff, or_false] at hy
  rcases hy with (rfl | rfl | rfl) | rfl | rfl | rfl <;>
    (simp only [List.mem_cons, List.mem_nil_iff, or_false] at hyy; rcases hyy with rfl | rfl | rfl | rfl | rfl <;> first | exact Nice.str _ | exact Nice.int _)
theorem goods_args {m r a b : Int} : ∀ ys ∈ goods m r a b, 2 ≤ ys.length := by
  intro ys hy
  simp only [goods, rowsV, rowV, goodA, goodB, litV, List.map_cons, List.map_nil, List.mem_append, List.mem_cons, List.mem_nil_iff, or_false] at hy
  rcases hy with (rfl | rfl | rfl | rfl) | rfl | rfl | rfl | rfl <;> simp
theorem chain_tupA {K : PySem.W.Frag} {H : Hp} {p b : Addr} {ys : List V} (hp : SqT K H p [.ref b]) (hb : SqT K H b ys) (hn : ∀ y ∈ ys, Nice K H y) : ChainAt K H p [ys] := ⟨[.ref b], hp, rfl, fun i x o hx ho => by
  match i, hx, ho with
  | 0, hx, ho =>
    cases hx
    cases ho
    exact ⟨b, rfl, hb, hn⟩
  | n + 1, hx, ho => simp at hx⟩
theorem cut_from (xs : List V) (k : Nat) : cutV xs (some (k : Int)) none = xs.drop k := by
  unfold cutV
  rw [HT.sIx_none, HT.sIx_nat]
  by_cases h : k ≤ xs.length
  · rw [Nat.min_eq_left h, List.take_of_length_le (by rw [List.length_drop]; exact Nat.le_refl _)]
  · rw [Nat.min_eq_right (by omega), List.drop_eq_nil_of_le (Nat.le_refl _), List.drop_eq_nil_of_le (by omega), List.take_nil]
theorem cut_butlast (xs : List V) (h : 1 ≤ xs.length) : cutV xs none (some (-1)) = xs.take (xs.length - 1) := by
  unfold cutV
  rw [HT.sIx_none, List.drop_zero, Nat.sub_zero]
  have : HT.sIx xs.length xs.length (some (-1)) = xs.length - 1 := by
    show (if (-1 : Int) < 0 then ((-1 : Int) + ((xs.length : Nat) : Int)).toNat else min (-1 : Int).toNat xs.length) = xs.length - 1
    rw [if_pos (by decide)]
    omega
  rw [this]
theorem ifB' {c : Bool} {A B : Prop} (h : c = false) (hB : B) : if c = true then A else B := by
  rw [h]
  exact iteF hB
theorem told_wish' {K : PySem.W.Frag} {T : List (Addr × Str)} {CE c0 c1 c2 c3 c4 c5 : Addr} {σ : L2.St} {H : Hp} {Q : VK} {sp : Sp} {ta : TA} {xs : List V} (hta : ∀ H1 R, R xs H1 → ta σ H1 R) (tb : LamX.Tabs T H) (h : ∀ H1, LamX.ExtN H H1 → LamX.Tabs T H1 → sp xs H1 Q (wishE K CE c0 c1 c2 c3 c4 c5 Q)) :
    tTold K T CE c0 c1 c2 c3 c4 c5 (fun E => tCal sp E ta) σ H Q := ⟨tb, fun H1 e1 t1 => hta H1 _ (h H1 e1 t1)⟩
/-- what the law puts into a step's place -/
def things (q : Addr) : List V := [.non, .bl true, .str "1", .ref q, .int 10, .int (-10)]
theorem things_bad {K : PySem.W.Frag} {H : Hp} {q : Addr} (hq : SqT K H q [.int 1]) : ∀ x ∈ things q, BadN x ∧ Nice K H x := fun x hx => by
  simp only [things, List.mem_cons, List.mem_nil_iff, or_false] at hx
  rcases hx with rfl | rfl | rfl | rfl | rfl | rfl
  · exact ⟨trivial, Nice.non⟩
  · exact ⟨trivial, Nice.bl _⟩
  · exact ⟨trivial, Nice.str _⟩
  · exact ⟨trivial, Nice.tup hq⟩
  · exact ⟨by show (10 : Int) < -9 ∨ (9 : Int) < 10; decide, Nice.int _⟩
  · exact ⟨by show (-10 : Int) < -9 ∨ (9 : Int) < -10; decide, Nice.int _⟩
theorem step_nice {K : PySem.W.Frag} {H : Hp} {ys : List V} (h : stepOk ys = true) : ∀ y ∈ ys, Nice K H y := fun y hy => strInt_nice (stepOk_strInt h y hy)
/-- a thing in the place of a number -/
theorem put_bad {ys : List V} (h : stepOk ys = true) {v : V} (hb : BadN v) (j : Nat) : stepOk (ys.take (j + 1) ++ [v] ++ ys.drop (j + 2)) = false := by
  obtain ⟨name, ns, rfl, _, hs, _⟩ := stepOk_shape h
  have e : (V.str name :: ns.map V.int).take (j + 1) ++ [v] ++ (V.str name :: ns.map V.int).drop (j + 2) = V.str name :: ((ns.map V.int).take j ++ v :: (ns.map V.int).drop (j + 1)) := by simp
  rw [e]
  exact step_bad (fun n hn => (hs n hn).2) hb
theorem less_bad {ys zs : List V} (h : stepOk ys = true) (hz : zs.head? = ys.head?) (hl : zs.length ≠ ys.length) : stepOk zs = false := by
  obtain ⟨name, ns, rfl, _, hs, _⟩ := stepOk_shape h
  match zs, hz, hl with
  | z :: zs, hz, hl =>
    have hz : some z = some (V.str name) := hz
    injection hz with hz
    subst hz
    exact step_len h (fun e => hl (by rw [List.length_cons, List.length_cons, e]))
/-- nothing but new things since: the list of steps, one of them -/
structure Z21 (K : PySem.W.Frag) (T : List (Addr × Str)) (t d : Addr) (ds : List Addr) (p : Addr) (L : List V) (rows : List (List V)) (H : Hp) : Prop where
  e : H p = some (.lst L)
  g : StepsL H L rows
  R : Rd T t d ds H
theorem Z21.same {K : PySem.W.Frag} {T : List (Addr × Str)} {t d : Addr} {ds : List Addr} {p : Addr} {L : List V} {rows : List (List V)} {H H' : Hp} (z : Z21 K T t d ds p L rows H) (s : Same H H') : Z21 K T t d ds p L rows H' := ⟨s _ _ z.e, z.g.ext (LamX.ExtN.of s), z.R.same s⟩
theorem Z21.ext {K : PySem.W.Frag} {T : List (Addr × Str)} {t d : Addr} {ds : List Addr} {p : Addr} {L : List V} {rows : List (List V)} {H H' : Hp} (z : Z21 K T t d ds p L rows H) (s : LamX.ExtN H H') (tb : LamX.Tabs T H') : Z21 K T t d ds p L rows H' := ⟨s _ _ z.e (fun ps w => by cases w), z.g.ext s, z.R.ext s tb⟩
end FC
set_option Elab.async false
set_option linter.all false
set_option maxRecDepth 100000
set_option maxHeartbeats 4000000
namespace FC
open PySem L2
def spRounds (K : PySem.W.Frag) : Sp := fun vs H Q _ => ∃ (a : Addr) (ns : List Int), vs = [.ref a, .int 4] ∧ SqL K H a (ns.map V.int) ∧ ns.length ≤ 63 ∧
  ∀ (t : Addr) (ds : List Addr) H', Same H H' → ds.length ≤ 4 → H' t = some (.lst (ds.map V.ref)) → (∀ d ∈ ds, Dice H' d ∧ H d = none) → H t = none → Q (.ref t) H'
section
variable {P : Program} {w : World} {K : PySem.W.Frag} {mg : Str → Option Value} {base : Heap}
theorem scRounds : FnScope ["_law_script", "_law_most", "_law_k"] ["_law_script", "_law_most"] (defScope sRounds) := ⟨rfl, rfl, rfl, by decide +kernel, rfl, by decide +kernel, by decide +kernel⟩
theorem ok_rounds {f : Addr} {fd : FuncData} (F : Fun K "_law_rounds" "_law_rounds" sRounds f fd) (T : Blt mg) (CC : Cal P w K mg base CX0 1 "_law_cell" ["_law_script", "_law_k"] (spCellL K)) : FnOk P w K mg base CX0 2 f fd ["_law_script", "_law_most"] (spRounds K) := by
  refine F.ok scRounds (fun vs H Q E h => ?_) (fun cdv A outer s H vs Q E hr h => ?_)
  · obtain ⟨a, k, rfl, _⟩ := h
    rfl
  · obtain ⟨a, ns, rfl, ha, hl, q⟩ := h
    have nd := scRounds.nd
    refine ⟨_, pss_one (ps_ret (pe_lc (own := [("_law_k", 2)]) (g := gName 2) (by rfl) nd
      (pi_range1 (by rfl) T.range (pa_cons (pe_callB (call_max2 rfl) (by rfl) T.max (by decide +kernel) (pa_cons pe_int (pa_cons (pe_callB (call_min2 rfl) (by rfl) T.min (by decide +kernel) (pa_cons (pv 1) (pa_cons (pe_callB call_len (by rfl) T.len PySem.boot_len (pa_cons (pv 0) pa_nil)) pa_nil))) pa_nil))) pa_nil))
      (blkOk_by (own := [("_law_k", 2)]) (N := ["_law_script", "_law_most", "_law_k"]) (sc := defScope sRounds) (by decide +kernel)) (fun _ _ _ _ _ => pg_name (i := 2) nd rfl (Or.inl rfl))
      (fun _ _ _ _ _ => pts_nil) (fun _ _ _ _ _ => pe_lst (pa_cons (pe_cal CC hr pass0 (pa_cons (pv 0) (pa_cons (pv 2) pa_nil))) (pa_cons pe_int pa_nil))))), ?_⟩
    have hN : ∃ N : Nat, (if (if (ns.length : Int) < 4 then (ns.length : Int) else 4) > 1 then (if (ns.length : Int) < 4 then (ns.length : Int) else 4) else 1) = (N : Int) ∧ N ≤ 4 := by
      by_cases h1 : (ns.length : Int) < 4
      · rw [if_pos h1]
        by_cases h2 : (ns.length : Int) > 1
        · rw [if_pos h2]
          exact ⟨ns.length, rfl, by omega⟩
        · rw [if_neg h2]
          exact ⟨1, rfl, by decide⟩
      · rw [if_neg h1]
        exact ⟨4, by decide, by decide⟩
    obtain ⟨N, eN, hN⟩ := hN
    have eL : ((ns.map V.int).length : Int) = (ns.length : Int) := by rw [List.length_map]
    refine ⟨_, rfl, _, rfl, _, (ns.map V.int).length, rfl, .inl ⟨_, ha, rfl⟩, _, _, rfl, _, _, rfl, (N : Int), ?_, by omega, by omega, fun D nD => ?_⟩
    · rw [eL, eN]
    have s1 := same_upd (o := .lst []) (Same.refl H) nD
    have eT : ((N : Int)).toNat = N := by omega
    rw [eT]
    refine lc_range (lo := 0) (n := N) (fun j H3 => ∃ ds : List Addr, ds.length = j ∧ H3 D = some (.lst (ds.map V.ref)) ∧ Same H H3 ∧ ∀ d ∈ ds, Dice H3 d ∧ H d = none ∧ d ≠ D)
      ⟨[], rfl, upd_same, s1, fun d hd => by simp at hd⟩ ?_ ?_
    · rintro j H3 hj ⟨ds, hds, hD, s3, each⟩
      refine ⟨rfl, ?_⟩
      have nDH : ∀ b o, H b = some o → b ≠ D := fun b o e => ne_of_none e nD
      refine ⟨_, rfl, _, rfl, a, ns, _, rfl, Same.seq s3 ha, hl, fun n H4 s4 => ⟨(by show 2 ≤ sizeLine; decide), fun d nd' => ⟨ds.map V.ref, ?_, ?_, ds ++ [d], ?_, ?_, ?_, ?_⟩⟩⟩
      · have h4 := s4 _ _ hD
        rw [upd_ne (ne_of_none h4 nd')]
        exact h4
      · rw [List.length_map]
        exact small1000 (by omega)
      · rw [List.length_append, hds]
        rfl
      · rw [upd_same, List.map_append]
        rfl
      · intro b o e
        have e4 := s4 _ _ (s3 b o e)
        rw [upd_ne (nDH b o e), upd_ne (ne_of_none e4 nd')]
        exact e4
      · intro c hc
        have dD : d ≠ D := fun z => by
          have h4 := s4 _ _ hD
          rw [← z, nd'] at h4
          cases h4
        rcases List.mem_append.mp hc with z | z
        · obtain ⟨⟨x, y, e1⟩, e2, e3⟩ := each c z
          have e4 := s4 _ _ e1
          refine ⟨⟨x, y, ?_⟩, e2, e3⟩
          rw [upd_ne e3, upd_ne (ne_of_none e4 nd')]
          exact e4
        · rw [List.mem_singleton.mp z]
          refine ⟨⟨n, 0, ?_⟩, ?_, dD⟩
          · rw [upd_ne dD]
            exact upd_same
          · exact Same.free (Same.trans s3 s4) nd'
    · rintro H3 ⟨ds, hds, hD, s3, each⟩
      exact q D ds H3 s3 (by omega) hD (fun d hd => ⟨(each d hd).1, (each d hd).2.1⟩) nD
end
end FC
set_option Elab.async false
set_option linter.all false
set_option maxRecDepth 100000
set_option maxHeartbeats 4000000
namespace FC
open PySem PySem.Spec PyProof.Rows L2
section
variable {X : Cx} {CX : CXT} {k : Nat} {x : Str} {ps : List Str} {sp : Sp} {E : XK} {e : Expr} {es : List Expr} {t : TA} {p pos : Pos}
theorem pe_cal0 (C : Cal X.prog X.w X.K X.mg X.base CX k x ps sp) (hr : Room k X.A) (hx : Passes CX X E) (hg : Gl X x := by rfl) (hdb : (x == ("__debug__" : Str)) = false := by decide) :
    PE X (.Call (.Name x p) [] [] pos) (tCal sp E tNil) := by
  obtain ⟨f, fd, G, m, kp, b⟩ := C.ex
  have h := pe_call0 (E := E) (pos := pos) (p := p) G hr hg m kp b .nil hx hdb
  refine ⟨fun pins s σ H Q I q => h.run pins s σ H Q I ?_⟩
  exact q
end
structure Lib21 (P : Program) (w : World) (K : PySem.W.Frag) (mg : Str → Option Value) (base : Heap) (g f2 CE c0 c1 c2 c3 c4 c5 C : Addr) (fdg fd2 : FuncData) (TT : List (Addr × Str)) : Prop where
  N : LibN P w K mg base g f2 CE c0 c1 c2 c3 c4 c5 C fdg fd2
  rounds : Cal P w K mg base CX0 2 "_law_rounds" ["_law_script", "_law_most"] (spRounds K)
  roll : Cal P w K mg base CX0 2 "_law_roll" ["_law_dice", "_law_many"] spRoll
  isChain : Cal P w K mg base CX0 4 "is_chain" ["value"] (spIsChain K)
  parse : Cal P w K mg base (L2N.CX P w) 5 "parse_chain" ["text"] (spParse K c3)
  right : Cal P w K mg base CX0 12 "_law_right_numbers" [] (spRightN TT)
abbrev NL : List Str := ["_law_script", "_law_dice", "_law_m", "_law_a", "_law_b", "_law_r", "_law_good", "_law_step", "_law_text", "_law_part", "_law_place", "_law_thing", "_law_cases"]
def qL : Str := "law" ++ ".<locals>." ++ "<lambda>"
def spLaw (K : PySem.W.Frag) (Pt Pt2 : Addr) : Sp := fun vs H Q _ => ∃ (a : Addr) (ns : List Int), vs = [.ref a] ∧ SqL K H a (ns.map V.int) ∧ ns.length ≤ 63 ∧ H Pt = some (.tbl #[]) ∧ H Pt2 = some (.tbl #[]) ∧ ∀ H', Q (.bl true) H'
section
variable {P : Program} {w : World} {K : PySem.W.Frag} {mg : Str → Option Value} {base : Heap}
theorem scLaw : FnScope NL ["_law_script"] (defScope sLaw) := ⟨rfl, rfl, rfl, by decide +kernel, rfl, by decide +kernel, by decide +kernel⟩
theorem ok_law {f c Pt Pt2 g f2 CE c0 c1 c2 c3 c4 c5 C : Addr} {fdg fd2 : FuncData} {dV kV doc pm ct oc : Value} {an od : Option Addr} {osl : Array (Option Value)} {TT : List (Addr × Str)} (eTT : TT = [(Pt, qL), (Pt2, qR)]) (hne : Pt ≠ Pt2) (B : Lib21 P w K mg base g f2 CE c0 c1 c2 c3 c4 c5 C fdg fd2 TT) (TB : LamX.TabB base mg c Pt)
    (lk : K.lookup f = some ⟨oc, od, .func (PySem.W.fnOf "law" "law" (defArgs sLaw) (defBody sLaw) (defScope sLaw) dV kV doc pm an (.ref c) ct), osl⟩) (hcd : PySem.W.codeIn K (.ref c) "law" = true) :
    FnOk P w K mg base CX0 13 f (PySem.W.fnOf "law" "law" (defArgs sLaw) (defBody sLaw) (defScope sLaw) dV kV doc pm an (.ref c) ct) ["_law_script"] (spLaw K Pt Pt2) := by
  have hTm : (Pt, qL) ∈ TT := by rw [eTT]; exact List.mem_cons_self
  have hTu : ∀ p ∈ TT, p.1 = Pt → p.2 = qL := fun p hp e => by
    rw [eTT] at hp
    simp only [List.mem_cons, List.mem_nil_iff, or_false] at hp
    rcases hp with z | z
    · rw [z]
    · rw [z] at e
      exact absurd e.symm hne
  refine fn_of lk hcd scLaw (fun vs H Q E h => ?_) (fun A outer s H vs Q E hr h => ?_)
  · obtain ⟨a, ns, rfl, _⟩ := h
    rfl
  · obtain ⟨sa, ns, rfl, ha, hl, hP, hP2, qq⟩ := h
    have nd := scLaw.nd
    have hr1 : Room 1 _ := hr.mono (by decide)
    have hr2 : Room 2 _ := hr.mono (by decide)
    have hr4 : Room 4 _ := hr.mono (by decide)
    have hr7 : Room 7 _ := hr.mono (by decide)
    have hr11 : Room 11 _ := hr.mono (by decide)
    have hr12 : Room 12 _ := hr.mono (by decide)
    have T := B.N.blt
    refine ⟨_, PSs.nox ((pss_cons (ps_for PassesOwn.never rfl (pi_list (pe_cal B.rounds hr2 pass0 (pa_cons (pv 0) (pa_cons pe_int pa_nil)))) (pg_name (i := 1) nd rfl (Or.inl rfl))
   (pss_cons (ps_par3 (i := 2) (j := 3) (l := 4) (by rfl) nd rfl rfl rfl (by decide) (by decide) (by decide) rfl rfl rfl (pa_cons (pe_op op_add pe_int (pe_cal B.roll hr2 pass0 (pa_cons (pv 1) (pa_cons pe_int pa_nil)))) (pa_cons (pe_op op_sub (pe_cal B.roll hr2 pass0 (pa_cons (pv 1) (pa_cons pe_int pa_nil))) pe_int) (pa_cons (pe_op op_sub (pe_cal B.roll hr2 pass0 (pa_cons (pv 1) (pa_cons pe_int pa_nil))) pe_int) pa_nil))) (by rfl))
    (pss_cons (ps_set (i := 5) nd rfl (Or.inl rfl) (pe_cal B.roll hr2 pass0 (pa_cons (pv 1) (pa_cons (pv 2) pa_nil))))
    (pss_cons (ps_set (i := 6) nd rfl (Or.inl rfl) (pe_lst (pa_cons (pe_tup (pa_cons pe_str (pa_cons (pv 2) (pa_cons (pv 5) (pa_cons (pv 3) (pa_cons (pv 4) pa_nil)))))) (pa_cons (pe_tup (pa_cons pe_str (pa_cons (pv 2) (pa_cons (pv 5) (pa_cons pe_int (pa_cons (pe_un un_neg pe_int) pa_nil)))))) (pa_cons (pe_tup (pa_cons pe_str (pa_cons pe_int (pa_cons pe_int (pa_cons (pe_un un_neg pe_int) (pa_cons pe_int pa_nil)))))) (pa_cons (pe_tup (pa_cons pe_str (pa_cons (pv 3) (pa_cons (pv 4) pa_nil)))) pa_nil))))))
    (pss_cons (ps_set (i := 6) nd rfl (Or.inl rfl) (pe_op op_cat (pv 6) (pe_lst (pa_cons (pe_tup (pa_cons pe_str (pa_cons (pv 2) (pa_cons (pv 5) pa_nil)))) (pa_cons (pe_tup (pa_cons pe_str (pa_cons (pv 2) (pa_cons (pv 5) pa_nil)))) (pa_cons (pe_tup (pa_cons pe_str (pa_cons (pv 2) (pa_cons (pv 5) pa_nil)))) (pa_cons (pe_tup (pa_cons pe_str (pa_cons (pv 2) pa_nil))) pa_nil)))))))
    (pss_cons (ps_for PassesOwn.never rfl (pi_list (pv 6)) (pg_name (i := 7) nd rfl (Or.inr rfl))
   (pss_cons (ps_set (i := 8) nd rfl (Or.inr rfl) (pe_join pe_str (pe_lc (own := [("_law_part", 9)]) (g := gName 9) (by rfl) nd (pi_tup (pv 7)) (blkOk_by (own := [("_law_part", 9)]) (N := NL) (sc := defScope sLaw) (by decide +kernel)) (fun _ _ _ _ _ => pg_name (i := 9) nd rfl (Or.inl rfl))
      (fun _ _ _ _ _ => pts_nil) (fun _ _ _ _ _ => pe_callTy (CallR.or call_str_int SkE.call_str_str) (by rfl) T.str (by decide +kernel) (pa_cons (pv 9) pa_nil)))))
    (pss_cons (ps_if (PW.pt (pw_or (pt_not (pt_val (pe_cal B.isChain hr4 pass0 (pa_cons (pe_tup (pa_cons (pv 7) pa_nil)) pa_nil)))) (pw_or1 (pt_cmpR (op_neD hr.units) (pe_told (k := 4) (T := TT) B.N.Fg B.N.bg B.N.mg_ rfl B.N.F2 B.N.m2 B.N.k2 B.N.b2 B.N.mE TB rfl hTm hTu hr7 (show LamX.LamS (defScope sLaw) _ from LamX.lamS_by (by decide +kernel)) rfl (fun _ _ _ _ _ => rfl)
          (fun A out s H E f c hr => (pe_cal B.parse hr (L2N.passes_call (W := fun cls d _ H => E cls d H) (L2N.takes_of rfl rfl rfl rfl) (fun _ _ _ _ h => h)) (pa_cons (pv 8) pa_nil)))) (pe_tup (pa_cons (pv 7) pa_nil)) (nomark _))))) (pss_one (ps_ret pe_bl)) pss_nil)
    (pss_cons (ps_for PassesOwn.never rfl (pi_range2 (by rfl) T.range (pa_cons pe_int (pa_cons (pe_callB call_len_seq (by rfl) T.len PySem.boot_len (pa_cons (pv 7) pa_nil)) pa_nil))) (pg_name (i := 10) nd rfl (Or.inl rfl))
   (pss_one (ps_for PassesOwn.never rfl (pi_tup (pe_tup (pa_cons pe_non (pa_cons pe_bl (pa_cons pe_str (pa_cons (pe_tup (pa_cons pe_int pa_nil)) (pa_cons pe_int (pa_cons (pe_un un_neg pe_int) pa_nil)))))))) (pg_name (i := 11) nd rfl (Or.inl rfl))
   (pss_one (ps_if (pt_val (pe_cal B.isChain hr4 pass0 (pa_cons (pe_tup (pa_cons (pe_op op_catU (pe_op op_catU (pe_slice sl_tupU (pv 7) po_none (po_some (pv 10))) (pe_tup (pa_cons (pv 11) pa_nil))) (pe_slice sl_tupU (pv 7) (po_some (pe_op op_add (pv 10) pe_int)) po_none)) pa_nil)) pa_nil))) (pss_one (ps_ret pe_bl)) pss_nil)))))
    (pss_one (ps_if (PW.pt (pw_or (pt_val (pe_cal B.isChain hr4 pass0 (pa_cons (pe_tup (pa_cons (pe_slice sl_tupU (pv 7) po_none (po_some (pe_un un_neg pe_int))) pa_nil)) pa_nil))) (pw_or (pt_val (pe_cal B.isChain hr4 pass0 (pa_cons (pe_tup (pa_cons (pe_op op_catU (pv 7) (pe_tup (pa_cons pe_int pa_nil))) pa_nil)) pa_nil))) (pw_or1 (pt_val (pe_cal B.isChain hr4 pass0 (pa_cons (pe_tup (pa_cons (pe_slice sl_tupU (pv 7) po_none (po_some pe_int)) pa_nil)) pa_nil))))))) (pss_one (ps_ret pe_bl)) pss_nil))))))
    (pss_cons (ps_set (i := 12) nd rfl (Or.inl rfl) (pe_lst (pa_cons (pe_tup (pa_cons pe_str (pa_cons pe_int (pa_cons pe_int (pa_cons pe_int (pa_cons pe_int pa_nil)))))) (pa_cons (pe_tup (pa_cons pe_str (pa_cons pe_int (pa_cons pe_int (pa_cons pe_int (pa_cons pe_int pa_nil)))))) (pa_cons (pe_tup (pa_cons pe_str (pa_cons (pv 2) (pa_cons (pv 2) (pa_cons pe_int (pa_cons pe_int pa_nil)))))) pa_nil)))))
    (pss_cons (ps_set (i := 12) nd rfl (Or.inl rfl) (pe_op op_cat (pv 12) (pe_lst (pa_cons (pe_tup (pa_cons pe_str (pa_cons (pv 2) (pa_cons (pe_un un_neg pe_int) (pa_cons pe_int (pa_cons pe_int pa_nil)))))) (pa_cons (pe_tup (pa_cons pe_str (pa_cons (pv 2) (pa_cons (pv 5) (pa_cons pe_int (pa_cons pe_int pa_nil)))))) (pa_cons (pe_tup (pa_cons pe_str (pa_cons (pv 2) (pa_cons (pv 5) (pa_cons pe_int (pa_cons pe_int pa_nil)))))) pa_nil))))))
    (pss_cons (ps_for PassesOwn.never rfl (pi_list (pv 12)) (pg_name (i := 7) nd rfl (Or.inr rfl))
   (pss_one (ps_if (PW.pt (pw_or (pt_val (pe_cal B.isChain hr4 pass0 (pa_cons (pe_tup (pa_cons (pv 7) pa_nil)) pa_nil))) (pw_or1 (pt_cmpR (op_neD hr.units) (pe_told (k := 8) (T := TT) B.N.Fg B.N.bg B.N.mg_ rfl B.N.F2 B.N.m2 B.N.k2 B.N.b2 B.N.mE TB rfl hTm hTu hr11 (show LamX.LamS (defScope sLaw) _ from LamX.lamS_by (by decide +kernel)) rfl (fun _ _ _ _ _ => rfl)
          (fun A out s H E f c hr => (pe_cal B.N.run hr (L2N.passes_call (W := fun cls d _ H => E cls d H) (L2N.takes_of rfl rfl rfl rfl) (fun _ _ _ _ h => h)) (pa_cons (pe_tup (pa_cons (pv 7) pa_nil)) (pa_cons (pe_tup pa_nil) pa_nil))))) (pe_tup (pa_cons pe_str (pa_cons pe_str pa_nil))) (nomark _))))) (pss_one (ps_ret pe_bl)) pss_nil)))
    (pss_one (ps_if (pt_not (pt_val (pe_cal0 B.right hr12 pass0))) (pss_one (ps_ret pe_bl)) pss_nil)))))))))))
    (pss_one (ps_ret pe_bl)))), ?_⟩
    refine ⟨_, rfl, sa, ns, rfl, ha, hl, fun t ds H1 s1 hds ht hall nt => ⟨t, rfl, ⟨_, SqL.of ht⟩, ?_⟩⟩
    have r1 : Rt TT t ds H1 := ⟨ht, fun c hc => (hall c hc).1, fun p hp => by
      rw [eTT] at hp
      simp only [List.mem_cons, List.mem_nil_iff, or_false] at hp
      rcases hp with z | z
      · rw [z]; exact LamX.TabS.nil (s1 _ _ hP)
      · rw [z]; exact LamX.TabS.nil (s1 _ _ hP2)⟩
    refine for_list (K := K) (a := t) (xs := ds.map V.ref) (fun i σ H2 => (∃ v1 v2 v3 v4 v5 v6 v7 v8 v9 v10 v11 v12 : Option V, σ = [some (.ref sa), v1, v2, v3, v4, v5, v6, v7, v8, v9, v10, v11, v12]) ∧ Rt TT t ds H2)
      ⟨⟨_, _, _, _, _, _, _, _, _, _, _, _, rfl⟩, r1⟩ (fun i σ H2 _ ⟨_, r⟩ => SqL.of r.tl) ?_ ?_
    · clear r1 hall nt s1 ht ha hP hP2 hds H1
      rintro i x σ H2 hx ⟨⟨v1, v2, v3, v4, v5, v6, v7, v8, v9, v10, v11, v12, rfl⟩, r2⟩
      obtain ⟨d, hd, rfl⟩ : ∃ d, d ∈ ds ∧ x = .ref d := by
        obtain ⟨d, hd, e⟩ := List.mem_map.mp (List.mem_of_getElem? hx)
        exact ⟨d, hd, e.symm⟩
      have d2 := r2.rd hd
      refine ⟨_, rfl, d, 2, rfl, d2.d, by decide, by decide, fun m0 H3 m00 m01 dd3 s3 => ⟨_, _, rfl, rfl, _, rfl, d, 7, rfl, (d2.roll s3 dd3).d, by decide, by decide, fun a0 H4 a00 a01 dd4 s4 => ⟨_, _, rfl, rfl, _, rfl, d, 19, rfl, ((d2.roll s3 dd3).roll s4 dd4).d, by decide, by decide, fun b0 H5 b00 b01 dd5 s5 => ⟨_, _, rfl, rfl, _, _, _, rfl, ?_⟩⟩⟩⟩
      have d5 := ((d2.roll s3 dd3).roll s4 dd4).roll s5 dd5
      clear s3 dd3 s4 dd4 s5 dd5 d2 r2
      obtain ⟨m, em⟩ : ∃ m, m = 2 + m0 := ⟨_, rfl⟩
      obtain ⟨a, ea⟩ : ∃ a, a = a0 - 3 := ⟨_, rfl⟩
      obtain ⟨b, eb⟩ : ∃ b, b = b0 - 9 := ⟨_, rfl⟩
      dsimp only
      rw [← em, ← ea, ← eb]
      have hm : m = 2 ∨ m = 3 := by omega
      have a1 : -3 ≤ a := by omega
      have a2 : a ≤ 3 := by omega
      have b1 : -9 ≤ b := by omega
      have b2 : b ≤ 9 := by omega
      clear em ea eb m00 m01 a00 a01 b00 b01
      refine ⟨_, rfl, _, rfl, d, m, rfl, d5.d, by omega, by omega, fun r H6 r0 r1 dd s => ?_⟩
      have d6 := d5.roll s dd
      clear d5 s dd
      -- the right ones
      refine set_lits (goodA m r a b) (by unfold goodA; simp [FitsAll, Fits]) (show 4 ≤ 1000 by decide) fun p0 x0 H7 s7 h7 l7 n7 => ?_
      have e7 := upd_same (H := H7) (a := p0) (o := .lst x0)
      have g7 := (steps_lits rfl h7).ext (LamX.ExtN.of (same_upd (o := .lst x0) (Same.refl H7) n7))
      have d7 := d6.same (same_upd (o := .lst x0) s7 n7)
      have l7 : x0.length = 4 := l7
      clear h7 d6 s7
      generalize upd H7 p0 (.lst x0) = H8 at e7 g7 d7 ⊢
      refine cat_rows (goodB m r) rfl e7 g7 (by omega) (show 4 ≤ 1000 by decide) (by unfold goodB; simp [FitsAll, Fits]) rfl fun p1 L H9 s9 e9 g9 l9 => ?_
      replace d7 := d7.same s9
      have l9 : L.length ≤ 8 := by
        have : (goodB m r).length = 4 := rfl
        omega
      clear e7 g7 s9 l7 n7
      have hok := goods_ok hm r0 r1 a1 a2 b1 b2
      have g9 : StepsL H9 L (goods m r a b) := g9
      have Z9 : Z21 K TT t d ds p1 L (goods m r a b) H9 := ⟨e9, g9, d7⟩
      clear e9 g9 d7
      refine ⟨_, rfl, p1, rfl, ⟨_, SqL.of Z9.e⟩, for_list (K := K) (a := p1) (xs := L) (fun _ σ H => (∃ v7 v8 v9 v10 v11 v12 : Option V, σ = [some (.ref sa), some (.ref d), some (.int m), some (.int a), some (.int b), some (.int r), some (.ref p1), v7, v8, v9, v10, v11, v12]) ∧ Z21 K TT t d ds p1 L (goods m r a b) H)
        ⟨⟨_, _, _, _, _, _, rfl⟩, Z9⟩ (fun i σ H _ ⟨_, h⟩ => SqL.of h.e) ?_ ?_⟩
      · clear Z9
        rintro j x σ H10 hx ⟨⟨v7, v8, v9, v10, v11, v12, rfl⟩, Z⟩
        obtain ⟨q, ys, rfl, hy, hq⟩ := Z.g x (List.mem_of_getElem? hx)
        have oy := hok ys hy
        have ly := goods_args ys hy
        clear hx hy
        -- its text
        refine ⟨⟨_, rfl⟩, _, rfl, q, rfl, ⟨_, SqT.of hq⟩, fun D nD => ?_⟩
        have sD : Same H10 (upd H10 D (.lst [])) := same_upd (Same.refl H10) nD
        obtain ⟨name, ns, ey, hn, hs, hl5⟩ := stepOk_shape oy
        have hlen : ys.length ≤ 5 := by
          rw [ey]
          simp
          omega
        refine lc_tup (K := K) (a := q) (xs := ys) (fun j H3 => H3 D = some (.lst (((ys.take j).map partText).map V.str)) ∧ Same H10 H3) ⟨upd_same, sD⟩ (fun j H3 _ ⟨_, s3⟩ => SqT.of (s3 _ _ hq)) ?_ ?_
        · rintro j y H3 hy ⟨hD, s3⟩
          have hj := get_lt hy
          have fin : ∃ acc, H3 D = some (.lst acc) ∧ acc.length < sizeLine ∧ upd H3 D (.lst (acc ++ [.str (partText y)])) D = some (.lst (((ys.take (j + 1)).map partText).map V.str)) ∧ Same H10 (upd H3 D (.lst (acc ++ [.str (partText y)]))) := by
            refine ⟨_, hD, ?_, ?_, ?_⟩
            · rw [List.length_map, List.length_map, List.length_take]
              exact small1000 (by omega)
            · rw [upd_same, take_succ_get hy, List.map_append, List.map_append]
              rfl
            · intro z u hz
              have hqD : z ≠ D := fun w => by
                rw [w, nD] at hz
                cases hz
              rw [upd_ne hqD]
              exact s3 z u hz
          have hym : y ∈ ys := List.mem_of_getElem? hy
          rw [ey] at hym
          rcases List.mem_cons.mp hym with z | z
          · subst z
            exact ⟨rfl, ⟨_, rfl, .inr ⟨_, rfl, fin⟩⟩⟩
          · obtain ⟨n, hn', rfl⟩ := List.mem_map.mp z
            have hb9 := hs n hn'
            refine ⟨rfl, ⟨_, rfl, .inl ⟨n, rfl, ?_, fin⟩⟩⟩
            have : n.natAbs ≤ 9 := by omega
            have all : ∀ m ≤ 9, Nat.log2 m < 1920 := by decide
            exact all _ this
        · rintro H3 ⟨hD, s3⟩
          rw [List.take_length] at hD
          have hb : (List.map (fun x => x.length) (ys.map partText)).sum + (ys.map partText).length * (" " : Str).length ≤ 16777216 := by
            have h2 := sum_bound (part_len oy)
            have e2 : (" " : Str).length = 1 := by decide +kernel
            rw [List.length_map] at h2
            rw [List.length_map, e2]
            omega
          refine ⟨_, D, ys.map partText, rfl, rfl, .inl (SqL.of hD), hb, ?_⟩
          replace Z := Z.same s3
          replace hq := s3 _ _ hq
          clear hD s3 sD nD hb
          -- a chain; and parsed
          refine ⟨_, rfl, (by show 1 ≤ sizeLine; decide), fun p4 np4 => ?_⟩
          have s4 := same_upd (o := .tup [V.ref q]) (Same.refl H3) np4
          refine ⟨.ref p4, _, rfl, chain_tup sqt_new (SqT.of (s4 _ _ hq)) (step_nice oy), fun H11 s11 => ⟨_, rfl, ifNot ((oneOk ys).trans oy) ?_⟩⟩
          replace Z := (Z.same s4).same s11
          replace hq := s11 _ _ (s4 _ _ hq)
          clear s4 s11 np4
          refine told_wish' (K := K) (CE := CE) (c0 := c0) (c1 := c1) (c2 := c2) (c3 := c3) (c4 := c4) (c5 := c5) (xs := [.str (stepText ys)]) (fun H1 R h => ⟨_, rfl, h⟩) Z.R.tb fun HA eA tA => ?_
          replace Z := Z.ext eA tA
          replace hq := eA _ _ hq (fun ps z => by cases z)
          have hone : chainOk [ys] = true := (chain_one ys).trans oy
          have hl100 := stepText_len oy
          refine ⟨_, rfl, .inl ⟨stepText ys, rfl, by omega, fun HB sB => ⟨fun hc a' na ca => ?_, fun hf => (by rw [parse_one oy, hone] at hf; cases hf)⟩⟩⟩
          rw [parse_one oy] at ca
          replace Z := Z.same sB
          replace hq := sB _ _ hq
          refine ⟨_, rfl, (by show 1 ≤ sizeLine; decide), fun p5 np5 => ?_⟩
          have s5 := same_upd (o := .tup [V.ref q]) (Same.refl HB) np5
          refine ⟨chainData [ys], chainData [ys], chain_dp (ca.same s5) hone, chain_dp (chain_tupA sqt_new (SqT.of (s5 _ _ hq)) (step_nice oy)) hone, chain_shaped hone, chain_shaped hone, _, rfl, ifEqvT (chain_refl hone) ?_⟩
          replace Z := Z.same s5
          replace hq := s5 _ _ hq
          generalize upd HB p5 (.tup [V.ref q]) = H12 at Z hq ⊢
          clear eA tA sB hc na ca np5 s5 hl100
          -- something wrong in a place
          refine ⟨_, rfl, q, ys, rfl, .inr (SqT.of hq), 1, (ys.length : Int), rfl, ⟨by decide, by decide, by omega, by omega⟩, for_range (lo := 1) (n := ((ys.length : Int) - 1).toNat) (fun _ σ H => (∃ v9 v10 v11 v12 : Option V, σ = [some (.ref sa), some (.ref d), some (.int m), some (.int a), some (.int b), some (.int r), some (.ref p1), some (.ref q), some (.str (stepText ys)), v9, v10, v11, v12]) ∧ H q = some (.tup ys) ∧ Z21 K TT t d ds p1 L (goods m r a b) H)
            ⟨⟨_, _, _, _, rfl⟩, hq, Z⟩ ?_ ?_⟩
          · clear hq Z
            rintro k σ H13 hk ⟨⟨v9, v10, v11, v12, rfl⟩, hq, Z⟩
            refine ⟨(by show 1 ≤ sizeLine; decide), fun tq ntq => ⟨_, rfl, (by show 6 ≤ sizeLine; decide), fun tt ntt => ?_⟩⟩
            have s1 := same_upd (o := .tup [V.int 1]) (Same.refl H13) ntq
            have s2 := same_upd (o := .tup (things tq)) (Same.refl _) ntt
            have et : upd (upd H13 tq (.tup [V.int 1])) tt (.tup (things tq)) tt = some (.tup (things tq)) := upd_same
            have eq' : upd (upd H13 tq (.tup [V.int 1])) tt (.tup (things tq)) tq = some (.tup [V.int 1]) := s2 _ _ upd_same
            replace Z := (Z.same s1).same s2
            replace hq := s2 _ _ (s1 _ _ hq)
            refine ⟨tt, rfl, ⟨things tq, SqT.of et⟩, for_tup (K := K) (a := tt) (xs := things tq) (fun _ σ H => (∃ v9 v11 v12 : Option V, σ = [some (.ref sa), some (.ref d), some (.int m), some (.int a), some (.int b), some (.int r), some (.ref p1), some (.ref q), some (.str (stepText ys)), v9, some (.int (1 + (k : Int))), v11, v12]) ∧ H tt = some (.tup (things tq)) ∧ H tq = some (.tup [.int 1]) ∧ H q = some (.tup ys) ∧ Z21 K TT t d ds p1 L (goods m r a b) H)
              ⟨⟨_, _, _, rfl⟩, et, eq', hq, Z⟩ (fun i σ H _ ⟨_, h, _⟩ => SqT.of h) ?_ ?_⟩
            · clear et eq' hq Z s1 s2 ntq ntt
              rintro i' x σ H15 hx ⟨⟨v9, v11, v12, rfl⟩, et, eq', hq, Z⟩
              obtain ⟨bx, nx⟩ := things_bad (K := K) (SqT.of eq') x (List.mem_of_getElem? hx)
              have el : ys.length = ns.length + 1 := by rw [ey, List.length_cons, List.length_map]
              refine ⟨_, rfl, _, rfl, _, rfl, q, ys, rfl, SqT.of hq, fun u1 H16 s16 h1 => ⟨_, rfl, (by show 1 ≤ sizeLine; decide), fun u2 nu2 => ?_⟩⟩
              rw [show (1 + (k : Int)) = ((k + 1 : Nat) : Int) by omega, cut_to] at h1
              have s17 := same_upd (o := .tup [x]) (Same.refl H16) nu2
              have h2 : SqT K (upd H16 u2 (.tup [x])) u2 [x] := sqt_new
              replace h1 := sqt_same s17 h1
              have s18 := Same.trans s16 s17
              generalize upd H16 u2 (.tup [x]) = H17 at h1 h2 s18
              refine ⟨u1, u2, _, _, rfl, rfl, h1, h2, ?_, fun u3 H18 s19 h3 => ?_⟩
              · have hsl : 8000 < sizeLine := by decide
                rw [List.length_take, List.length_singleton]
                omega
              refine ⟨_, rfl, _, rfl, _, _, rfl, rfl, _, rfl, q, ys, rfl, SqT.of (s19 _ _ (s18 _ _ hq)), fun u4 H19 s20 h4 => ?_⟩
              rw [show (1 + (k : Int) + 1) = ((k + 2 : Nat) : Int) by omega, cut_from] at h4
              refine ⟨u3, u4, _, _, rfl, rfl, sqt_same s20 h3, h4, ?_, fun u5 H20 s21 h5 => ⟨(by show 1 ≤ sizeLine; decide), fun u6 nu6 => ?_⟩⟩
              · have hsl : 8000 < sizeLine := by decide
                rw [List.length_append, List.length_take, List.length_singleton, List.length_drop]
                omega
              have s22 := same_upd (o := .tup [V.ref u5]) (Same.refl H20) nu6
              have s23 := Same.trans (Same.trans (Same.trans s18 s19) (Same.trans s20 s21)) s22
              have nice : ∀ y ∈ ys.take (k + 1) ++ [x] ++ ys.drop (k + 2), Nice K (upd H20 u6 (.tup [V.ref u5])) y := fun y hy => by
                rcases List.mem_append.mp hy with z | z
                · rcases List.mem_append.mp z with z | z
                  · exact step_nice oy y (List.mem_of_mem_take z)
                  · rw [List.mem_singleton.mp z]
                    exact nx.same s23
                · exact step_nice oy y (List.mem_of_mem_drop z)
              refine ⟨.ref u6, _, rfl, chain_tup sqt_new (sqt_same s22 h5) nice, fun H21 s24 => ⟨_, rfl, ifB' ((oneOk _).trans (put_bad oy bx k)) ?_⟩⟩
              have s25 := Same.trans s23 s24
              exact ⟨⟨_, _, _, rfl⟩, s25 _ _ et, s25 _ _ eq', s25 _ _ hq, Z.same s25⟩
            · rintro σ H15 ⟨⟨v9, v11, v12, rfl⟩, _, _, hq, Z⟩
              exact ⟨⟨_, _, _, _, rfl⟩, hq, Z⟩
          · clear hq Z
            rintro σ H13 ⟨⟨v9, v10, v11, v12, rfl⟩, hq, Z⟩
            have el : ys.length = ns.length + 1 := by rw [ey, List.length_cons, List.length_map]
            have hsl : 8000 < sizeLine := by decide
            have yt : ∀ k, (ys.take (k + 1)).head? = ys.head? := fun k => by rw [ey]; rfl
            -- one too few
            refine ⟨_, rfl, _, rfl, _, rfl, q, ys, rfl, SqT.of hq, fun u1 H14 s14 h1 => ⟨(by show 1 ≤ sizeLine; decide), fun u2 nu2 => ?_⟩⟩
            rw [show (-(1 : Int)) = -1 from rfl, cut_butlast ys (by omega)] at h1
            have s15 := same_upd (o := .tup [V.ref u1]) (Same.refl H14) nu2
            refine ⟨.ref u2, _, rfl, chain_tup sqt_new (sqt_same s15 h1) (fun y hy => step_nice oy y (List.mem_of_mem_take hy)), fun H16 s16 => ⟨_, rfl, ifB' ((oneOk _).trans (less_bad oy (by rw [show ys.length - 1 = (ys.length - 2) + 1 by omega]; exact yt _) (by rw [List.length_take]; omega))) ?_⟩⟩
            replace Z := Z.same (Same.trans (Same.trans s14 s15) s16)
            replace hq := (Same.trans (Same.trans s14 s15) s16) _ _ hq
            clear s14 s15 s16 h1 nu2
            -- one too many
            refine ⟨_, rfl, (by show 1 ≤ sizeLine; decide), fun u1 nu1 => ?_⟩
            have s14 := same_upd (o := .tup [V.int 0]) (Same.refl H16) nu1
            refine ⟨q, u1, ys, [V.int 0], rfl, rfl, SqT.of (s14 _ _ hq), sqt_new, by rw [List.length_singleton]; omega, fun u2 H17 s17 h2 => ⟨(by show 1 ≤ sizeLine; decide), fun u3 nu3 => ?_⟩⟩
            have s18 := same_upd (o := .tup [V.ref u2]) (Same.refl H17) nu3
            refine ⟨.ref u3, _, rfl, chain_tup sqt_new (sqt_same s18 h2) (fun y hy => (List.mem_append.mp hy).elim (step_nice oy y) (fun z => by rw [List.mem_singleton.mp z]; exact Nice.int _)), fun H18 s19 => ⟨_, rfl, ifB' ((oneOk _).trans (less_bad oy (by rw [ey]; rfl) (by rw [List.length_append, List.length_singleton]; omega))) ?_⟩⟩
            replace Z := Z.same (Same.trans (Same.trans s14 s17) (Same.trans s18 s19))
            replace hq := (Same.trans (Same.trans s14 s17) (Same.trans s18 s19)) _ _ hq
            clear s14 s17 s18 s19 h2 nu1 nu3
            -- none
            refine ⟨_, rfl, _, rfl, q, ys, rfl, SqT.of hq, fun u1 H19 s14 h1 => ⟨(by show 1 ≤ sizeLine; decide), fun u2 nu2 => ?_⟩⟩
            rw [show (1 : Int) = ((0 + 1 : Nat) : Int) from rfl, cut_to] at h1
            have s15 := same_upd (o := .tup [V.ref u1]) (Same.refl H19) nu2
            refine ⟨.ref u2, _, rfl, chain_tup sqt_new (sqt_same s15 h1) (fun y hy => step_nice oy y (List.mem_of_mem_take hy)), fun H20 s16 => ⟨_, rfl, ifB' ((oneOk _).trans (less_bad oy (yt 0) (by rw [List.length_take]; omega))) ?_⟩⟩
            exact ⟨⟨_, _, _, _, _, _, rfl⟩, Z.same (Same.trans (Same.trans s14 s15) s16)⟩
      · clear Z9
        rintro σ H10 ⟨⟨v7, v8, v9, v10, v11, v12, rfl⟩, Z⟩
        have R := Z.R
        clear Z
        refine set_lits (caseA m) (by unfold caseA; simp [FitsAll, Fits]) (show 3 ≤ 1000 by decide) fun p0 x0 H7 s7 h7 l7 n7 => ?_
        have e7 := upd_same (H := H7) (a := p0) (o := .lst x0)
        have g7 := (steps_lits rfl h7).ext (LamX.ExtN.of (same_upd (o := .lst x0) (Same.refl H7) n7))
        replace R := R.same (same_upd (o := .lst x0) s7 n7)
        have l7 : x0.length = 3 := l7
        clear h7 s7
        generalize upd H7 p0 (.lst x0) = H8 at e7 g7 R ⊢
        refine cat_rows (caseB m r) rfl e7 g7 (by omega) (show 3 ≤ 1000 by decide) (by unfold caseB; simp [FitsAll, Fits]) rfl fun p1 L H9 s9 e9 g9 l9 => ?_
        replace R := R.same s9
        have Z9 : Z21 K TT t d ds p1 L (cases21 m r) H9 := ⟨e9, g9, R⟩
        have hno := cases_no hm r0 r1
        clear e7 g7 s9 l7 n7 R e9 g9 l9
        refine ⟨_, rfl, p1, rfl, ⟨_, SqL.of Z9.e⟩, for_list (K := K) (a := p1) (xs := L) (fun _ σ H => (∃ v6 v7 v8 v9 v10 v11 v12 : Option V, σ = [some (.ref sa), some (.ref d), some (.int m), some (.int a), some (.int b), some (.int r), v6, v7, v8, v9, v10, v11, v12]) ∧ Z21 K TT t d ds p1 L (cases21 m r) H)
          ⟨⟨_, _, _, _, _, _, _, rfl⟩, Z9⟩ (fun i σ H _ ⟨_, h⟩ => SqL.of h.e) ?_ ?_⟩
        · clear Z9
          rintro j x σ H11 hx ⟨⟨v6, v7, v8, v9, v10, v11, v12, rfl⟩, Z⟩
          obtain ⟨q, ys, rfl, hy, hq⟩ := Z.g x (List.mem_of_getElem? hx)
          have oy := hno ys hy
          refine ⟨_, rfl, (by show 1 ≤ sizeLine; decide), fun p4 np4 => ?_⟩
          have s4 := same_upd (o := .tup [V.ref q]) (Same.refl H11) np4
          refine ⟨.ref p4, _, rfl, chain_tup sqt_new (SqT.of (s4 _ _ hq)) (fun y h => cases_flat ys hy y h), fun H12 s12 => ⟨_, rfl, ifB' ((oneOk ys).trans oy) ?_⟩⟩
          replace Z := (Z.same s4).same s12
          replace hq := s12 _ _ (s4 _ _ hq)
          clear s4 s12 np4
          refine ⟨Z.R.tb, fun HA eA tA => ?_⟩
          replace Z := Z.ext eA tA
          replace hq := eA _ _ hq (fun ps z => by cases z)
          refine ⟨_, rfl, (by show 1 ≤ sizeLine; decide), fun p5 np5 => ⟨(by show 0 ≤ sizeLine; decide), fun p6 np6 => ?_⟩⟩
          have s5 := same_upd (o := .tup [V.ref q]) (Same.refl HA) np5
          have s6 := same_upd (o := .tup []) (Same.refl _) np6
          have s7 := Same.trans s5 s6
          refine ⟨.ref p5, .ref p6, rfl, .inr (.inl ⟨_, chain_tup (sqt_same s6 sqt_new) (SqT.of (s7 _ _ hq)) (fun y h => cases_flat ys hy y h), (oneOk ys).trans oy, fun H3 s3 => ⟨c0, 0, "InvalidChain", rfl, rfl, B.N.em0, B.N.one0, rfl, fun t9 H4 s4 e4 => ?_⟩⟩)⟩
          have s9 := Same.trans (Same.trans s7 s3) s4
          refine ⟨(by show 2 ≤ sizeLine; decide), fun p np => ?_⟩
          have sp := same_upd (o := .tup [.str "error", .str "InvalidChain"]) (Same.refl H4) np
          have esh := erd_shaped "InvalidChain" (by decide +kernel)
          refine ⟨errData "InvalidChain", errData "InvalidChain", err_dp (sp _ _ e4), err_dp upd_same, esh, esh, _, rfl, ifEqvT (SeqAt.eqv_refl _ (SeqAt.canLay_of_shaped esh)) ?_⟩
          exact ⟨⟨_, _, _, _, _, _, _, rfl⟩, Z.same (Same.trans s9 sp)⟩
        · clear Z9
          rintro σ H11 ⟨⟨v6, v7, v8, v9, v10, v11, v12, rfl⟩, Z⟩
          exact ⟨rfl, Z.R.tb, fun H12 e12 t12 => ⟨_, rfl, ifNot rfl ⟨⟨_, _, _, _, _, _, _, _, _, _, _, _, rfl⟩, (Z.ext e12 t12).R.rt⟩⟩⟩
    · rintro σ H2 ⟨⟨v1, v2, v3, v4, v5, v6, v7, v8, v9, v10, v11, v12, rfl⟩, r2⟩
      exact qq H2
end
end FC
set_option Elab.async false
set_option linter.all false
set_option maxRecDepth 100000
set_option maxHeartbeats 1000000
namespace FC
open PySem PySem.Spec PyProof.Rows L2
/-! ### what the top leaves -/
def DefOk (K : PySem.W.Frag) (x : Str) (st : Stmt) : Prop := ∃ (f : Addr) (fd : FuncData), PySem.W.nsIn K mainGlobals x = some (some (.ref f)) ∧ Fun K x x st f fd
theorem defOk {K : PySem.W.Frag} {x : Str} {st : Stmt} {f : Addr} {oc : Value} {od an : Option Addr} {osl : Array (Option Value)} {kV doc pm cdv ct : Value} (a : PySem.W.nsIn K mainGlobals x = some (some (.ref f)))
    (l : K.lookup f = some ⟨oc, od, .func (PySem.W.fnOf x x (defArgs st) (defBody st) (defScope st) .none kV doc pm an cdv ct), osl⟩) (c : PySem.W.codeIn K cdv x = true) (k : PySem.W.keepIn K (.ref f) = true) : DefOk K x st := ⟨f, _, a, fun_mk l c k⟩
def ent (P : Params) (e : Str × Tok × Value) : DictEntry := ⟨PyData.keyHash P e.1, .str e.1 e.2.1, e.2.2⟩
def nsL (l : List (Str × Tok × Value)) (z : Str) : Option Value := (l.find? fun e => e.1 == z).map (·.2.2)
def All2 {β : Type} (R : β → Value → Prop) : List (Str × Tok × Value) → List (Str × β) → Prop
  | [], [] => True
  | e :: l, b :: t => e.1 = b.1 ∧ R b.2 e.2.2 ∧ All2 R l t
  | _, _ => False
theorem all2_find {β : Type} {R : β → Value → Prop} : ∀ {l : List (Str × Tok × Value)} {tb : List (Str × β)}, All2 R l tb → ∀ z, match tb.lookup z with
    | none => nsL l z = none
    | some b => ∃ v, nsL l z = some v ∧ R b v
  | [], [], _, z => rfl
  | e :: l, b :: t, ⟨h1, h2, h3⟩, z => by
    obtain ⟨x, k, v⟩ := e
    obtain ⟨y, b⟩ := b
    have h1 : x = y := h1
    subst h1
    by_cases hz : z = x
    · subst hz
      have e1 : nsL ((z, k, v) :: l) z = some v := by
        unfold nsL
        rw [List.find?_cons_of_pos (by simp)]
        rfl
      simp only [List.lookup, beq_self_eq_true]
      exact ⟨v, e1, h2⟩
    · have e1 : nsL ((x, k, v) :: l) z = nsL l z := by
        unfold nsL
        rw [List.find?_cons_of_neg (by simp; exact fun q => hz q.symm)]
      have e2 : (z == x) = false := beq_eq_false_iff_ne.mpr hz
      simp only [List.lookup, e2, e1]
      exact all2_find h3 z
section
variable {K : PySem.W.Frag} {w : World} {d : Addr} {n : Nat} {l : List (Str × Tok × Value)}
theorem keysLit_ents {P : Params} : ∀ (l : List (Str × Tok × Value)), PySem.W.KeysLit P (l.map (ent P))
  | [] => trivial
  | e :: r => ⟨⟨_, _, rfl, rfl⟩, keysLit_ents r⟩
theorem kd_ents (h : K.lookup d = some ⟨.type "dict", none, .dict (l.map (ent w.params)).toArray n, #[]⟩) (low : (d == sysModules) = false) : KDict K w d (l.map (ent w.params)).toArray n := ⟨h, keysLit_ents l, low⟩
theorem find_ents {P : Params} (z : Str) : ∀ (l : List (Str × Tok × Value)), (l.map (ent P)).find? (·.key.isStr z) = (l.find? fun e => e.1 == z).map (ent P)
  | [] => rfl
  | e :: r => by
    rw [List.map_cons, List.find?_cons, List.find?_cons]
    have e1 : (ent P e).key.isStr z = (e.1 == z) := rfl
    rw [e1]
    cases (e.1 == z) with
    | true => rfl
    | false => exact find_ents z r
theorem noRef_ents {P : Params} : ∀ (l : List (Str × Tok × Value)), (l.map (ent P)).any (·.refKey) = false
  | [] => rfl
  | e :: r => by
    rw [List.map_cons, List.any_cons, noRef_ents r]
    rfl
theorem ns_ents {o : Value} {od : Option Addr} {sl : Array (Option Value)} {P : Params} (h : K.lookup d = some ⟨o, od, .dict (l.map (ent P)).toArray n, sl⟩) (z : Str) : PySem.W.nsIn K d z = some (nsL l z) := by
  unfold PySem.W.nsIn
  rw [h]
  show (match ((l.map (ent P)).toArray.toList).find? (·.key.isStr z) with
    | some e => some (some e.val)
    | none => if ((l.map (ent P)).toArray.toList).any (·.refKey) then none else some none) = _
  rw [List.toList_toArray, find_ents, noRef_ents]
  unfold nsL
  cases l.find? (fun e => e.1 == z) <;> rfl
end
def TupV (K : PySem.W.Frag) (a : Addr) (xs : List V) : Prop := ∃ (o : Obj) (its : Array Value) (n : Nat), K.lookup a = some o ∧ o.cls = .type "tuple" ∧ o.data = .seq its n ∧ its.size ≤ sizeLine ∧ Vals xs its.toList
theorem TupV.sq {K : PySem.W.Frag} {a : Addr} {xs : List V} (h : TupV K a xs) : ∀ H, SqT K H a xs := fun H => .inr h
theorem tup0 {K : PySem.W.Frag} {a : Addr} {od : Option Addr} {n : Nat} {sl : Array (Option Value)} (l : K.lookup a = some ⟨.type "tuple", od, .seq #[] n, sl⟩)  : TupV K a [] := ⟨_, _, _, l, rfl, rfl, (by show 0 ≤ sizeLine; decide), .nil⟩
theorem tup1 {K : PySem.W.Frag} {a : Addr} {od : Option Addr} {n : Nat} {sl : Array (Option Value)} {x0 : V} {u0 : Value} (l : K.lookup a = some ⟨.type "tuple", od, .seq #[u0] n, sl⟩) (r0 : RelV x0 u0) : TupV K a [x0] := ⟨_, _, _, l, rfl, rfl, (by show 1 ≤ sizeLine; decide), (.cons r0 .nil)⟩
theorem tup2 {K : PySem.W.Frag} {a : Addr} {od : Option Addr} {n : Nat} {sl : Array (Option Value)} {x0 x1 : V} {u0 u1 : Value} (l : K.lookup a = some ⟨.type "tuple", od, .seq #[u0, u1] n, sl⟩) (r0 : RelV x0 u0) (r1 : RelV x1 u1) : TupV K a [x0, x1] := ⟨_, _, _, l, rfl, rfl, (by show 2 ≤ sizeLine; decide), (.cons r0 (.cons r1 .nil))⟩
theorem tup3 {K : PySem.W.Frag} {a : Addr} {od : Option Addr} {n : Nat} {sl : Array (Option Value)} {x0 x1 x2 : V} {u0 u1 u2 : Value} (l : K.lookup a = some ⟨.type "tuple", od, .seq #[u0, u1, u2] n, sl⟩) (r0 : RelV x0 u0) (r1 : RelV x1 u1) (r2 : RelV x2 u2) : TupV K a [x0, x1, x2] := ⟨_, _, _, l, rfl, rfl, (by show 3 ≤ sizeLine; decide), (.cons r0 (.cons r1 (.cons r2 .nil)))⟩
theorem tup4 {K : PySem.W.Frag} {a : Addr} {od : Option Addr} {n : Nat} {sl : Array (Option Value)} {x0 x1 x2 x3 : V} {u0 u1 u2 u3 : Value} (l : K.lookup a = some ⟨.type "tuple", od, .seq #[u0, u1, u2, u3] n, sl⟩) (r0 : RelV x0 u0) (r1 : RelV x1 u1) (r2 : RelV x2 u2) (r3 : RelV x3 u3) : TupV K a [x0, x1, x2, x3] := ⟨_, _, _, l, rfl, rfl, (by show 4 ≤ sizeLine; decide), (.cons r0 (.cons r1 (.cons r2 (.cons r3 .nil))))⟩
theorem tup5 {K : PySem.W.Frag} {a : Addr} {od : Option Addr} {n : Nat} {sl : Array (Option Value)} {x0 x1 x2 x3 x4 : V} {u0 u1 u2 u3 u4 : Value} (l : K.lookup a = some ⟨.type "tuple", od, .seq #[u0, u1, u2, u3, u4] n, sl⟩) (r0 : RelV x0 u0) (r1 : RelV x1 u1) (r2 : RelV x2 u2) (r3 : RelV x3 u3) (r4 : RelV x4 u4) : TupV K a [x0, x1, x2, x3, x4] := ⟨_, _, _, l, rfl, rfl, (by show 5 ≤ sizeLine; decide), (.cons r0 (.cons r1 (.cons r2 (.cons r3 (.cons r4 .nil)))))⟩
def LetOk (K : PySem.W.Frag) (w : World) : Prop := ∃ d, PySem.W.nsIn K mainGlobals "LETTERS" = some (some (.ref d)) ∧ LetT K w d
theorem letOk {K : PySem.W.Frag} {w : World} {d : Addr} {n : Nat} {t0 t1 t2 t3 t4 t5 t6 t7 t8 t9 : Tok} {a0 a1 a2 a3 a4 a5 a6 a7 a8 a9 : Addr} (g : PySem.W.nsIn K mainGlobals "LETTERS" = some (some (.ref d)))
    (h : K.lookup d = some ⟨.type "dict", none, .dict #[⟨PyData.keyHash w.params "line", .str "line" t0, .ref a0⟩, ⟨PyData.keyHash w.params "turn", .str "turn" t1, .ref a1⟩, ⟨PyData.keyHash w.params "keep", .str "keep" t2, .ref a2⟩, ⟨PyData.keyHash w.params "every", .str "every" t3, .ref a3⟩, ⟨PyData.keyHash w.params "twice", .str "twice" t4, .ref a4⟩, ⟨PyData.keyHash w.params "sums", .str "sums" t5, .ref a5⟩, ⟨PyData.keyHash w.params "anew", .str "anew" t6, .ref a6⟩, ⟨PyData.keyHash w.params "gaps", .str "gaps" t7, .ref a7⟩, ⟨PyData.keyHash w.params "groups", .str "groups" t8, .ref a8⟩, ⟨PyData.keyHash w.params "count", .str "count" t9, .ref a9⟩] n, #[]⟩) (low : (d == sysModules) = false)
    (h0 : TupV K a0 [.str "a", .str "b"]) (h1 : TupV K a1 [.str "m", .str "r", .str "a", .str "b"]) (h2 : TupV K a2 [.str "m", .str "r"]) (h3 : TupV K a3 [.str "k", .str "r"]) (h4 : TupV K a4 []) (h5 : TupV K a5 []) (h6 : TupV K a6 [.str "m", .str "r"]) (h7 : TupV K a7 []) (h8 : TupV K a8 [.str "k"]) (h9 : TupV K a9 []) : LetOk K w := by
  have h : K.lookup d = some ⟨.type "dict", none, .dict (([("line", t0, .ref a0), ("turn", t1, .ref a1), ("keep", t2, .ref a2), ("every", t3, .ref a3), ("twice", t4, .ref a4), ("sums", t5, .ref a5), ("anew", t6, .ref a6), ("gaps", t7, .ref a7), ("groups", t8, .ref a8), ("count", t9, .ref a9)] : List (Str × Tok × Value)).map (ent w.params)).toArray n, #[]⟩ := h
  refine ⟨d, g, ⟨_, _, kd_ents h low⟩, fun z => ⟨_, ns_ents h z, ?_⟩⟩
  have al : All2 (fun (ls : List Str) v => ∃ a, v = .ref a ∧ ∀ H, SqT K H a (ls.map V.str)) [("line", t0, .ref a0), ("turn", t1, .ref a1), ("keep", t2, .ref a2), ("every", t3, .ref a3), ("twice", t4, .ref a4), ("sums", t5, .ref a5), ("anew", t6, .ref a6), ("gaps", t7, .ref a7), ("groups", t8, .ref a8), ("count", t9, .ref a9)] tab := ⟨rfl, ⟨_, rfl, h0.sq⟩, ⟨rfl, ⟨_, rfl, h1.sq⟩, ⟨rfl, ⟨_, rfl, h2.sq⟩, ⟨rfl, ⟨_, rfl, h3.sq⟩, ⟨rfl, ⟨_, rfl, h4.sq⟩, ⟨rfl, ⟨_, rfl, h5.sq⟩, ⟨rfl, ⟨_, rfl, h6.sq⟩, ⟨rfl, ⟨_, rfl, h7.sq⟩, ⟨rfl, ⟨_, rfl, h8.sq⟩, ⟨rfl, ⟨_, rfl, h9.sq⟩, trivial⟩⟩⟩⟩⟩⟩⟩⟩⟩⟩
  have := all2_find al z
  revert this
  cases tab.lookup z with
  | none => exact fun h => h
  | some ls => exact fun ⟨v, h1, a, h2, h3⟩ => ⟨a, by rw [h1, h2], h3⟩
def BndOk (K : PySem.W.Frag) (w : World) : Prop := ∃ d, PySem.W.nsIn K mainGlobals "BOUNDS" = some (some (.ref d)) ∧ BndT K w d
theorem bndOk {K : PySem.W.Frag} {w : World} {d : Addr} {n : Nat} {t0 t1 t2 t3 : Tok} {a0 a1 a2 a3 : Addr} (g : PySem.W.nsIn K mainGlobals "BOUNDS" = some (some (.ref d)))
    (h : K.lookup d = some ⟨.type "dict", none, .dict #[⟨PyData.keyHash w.params "a", .str "a" t0, .ref a0⟩, ⟨PyData.keyHash w.params "b", .str "b" t1, .ref a1⟩, ⟨PyData.keyHash w.params "m", .str "m" t2, .ref a2⟩, ⟨PyData.keyHash w.params "k", .str "k" t3, .ref a3⟩] n, #[]⟩) (low : (d == sysModules) = false)
    (h0 : TupV K a0 [.int (-3), .int (3)]) (h1 : TupV K a1 [.int (-9), .int (9)]) (h2 : TupV K a2 [.int (2), .int (3)]) (h3 : TupV K a3 [.int (2), .int (3)]) : BndOk K w := by
  have h : K.lookup d = some ⟨.type "dict", none, .dict (([("a", t0, .ref a0), ("b", t1, .ref a1), ("m", t2, .ref a2), ("k", t3, .ref a3)] : List (Str × Tok × Value)).map (ent w.params)).toArray n, #[]⟩ := h
  refine ⟨d, g, ⟨_, _, kd_ents h low⟩, fun p hp => ?_⟩
  unfold bnd at hp
  simp only [List.mem_cons, List.mem_nil_iff, or_false] at hp
  rcases hp with rfl | rfl | rfl | rfl
  · exact ⟨a0, (ns_ents h _).trans (by rfl), h0.sq⟩
  · exact ⟨a1, (ns_ents h _).trans (by rfl), h1.sq⟩
  · exact ⟨a2, (ns_ents h _).trans (by rfl), h2.sq⟩
  · exact ⟨a3, (ns_ents h _).trans (by rfl), h3.sq⟩
def LimOk (K : PySem.W.Frag) : Prop := ∃ d, PySem.W.nsIn K mainGlobals "LIMITS" = some (some (.ref d)) ∧ LimT K d
theorem limOk_ {K : PySem.W.Frag} {d r0 r1 r2 c0 c1 c2 : Addr} (g : PySem.W.nsIn K mainGlobals "LIMITS" = some (some (.ref d))) (h : TupV K d [.ref r0, .ref r1, .ref r2])
    (h0 : TupV K r0 [.int 2, .ref c0]) (k0 : TupV K c0 [.str "sums", .str "anew", .str "gaps", .str "groups", .str "count"]) (h1 : TupV K r1 [.int 2, .ref c1]) (k1 : TupV K c1 [.str "turn", .str "keep", .str "anew"]) (h2 : TupV K r2 [.int 1, .ref c2]) (k2 : TupV K c2 [.str "twice"]) : LimOk K := by
  refine ⟨d, g, ⟨[r0, r1, r2], h.sq, rfl, fun i p r hp hr => ?_⟩⟩
  match i, hp, hr with
  | 0, hp, hr =>
    cases hp
    cases hr
    exact ⟨c0, h0.sq, k0.sq⟩
  | 1, hp, hr =>
    cases hp
    cases hr
    exact ⟨c1, h1.sq, k1.sq⟩
  | 2, hp, hr =>
    cases hp
    cases hr
    exact ⟨c2, h2.sq, k2.sq⟩
  | n + 3, hp, hr => cases hp
def ExcQ (K : PySem.W.Frag) (C : Addr) : Prop := PySem.W.excIn K C [.type "ValueError", .type "Exception", .type "BaseException", .type "object"] "ValueError.__new__" = true ∧ PySem.W.keepIn K (.ref C) = true ∧ PySem.W.subIn K (.ref C) (.type "BaseException") = some true ∧ PySem.W.typeIn K (.ref C) = some (.type "type")
def GivOk (K : PySem.W.Frag) (w : World) : Prop := ∃ d, PySem.W.nsIn K mainGlobals "GIVERS" = some (some (.ref d)) ∧ (∃ es n, KDict K w d es n) ∧ (∃ f, PySem.W.nsIn K d "line" = some (some (.ref f)) ∧ PySem.W.nsIn K mainGlobals "give_line" = some (some (.ref f))) ∧ (∃ f, PySem.W.nsIn K d "turn" = some (some (.ref f)) ∧ PySem.W.nsIn K mainGlobals "give_turn" = some (some (.ref f))) ∧ (∃ f, PySem.W.nsIn K d "keep" = some (some (.ref f)) ∧ PySem.W.nsIn K mainGlobals "give_keep" = some (some (.ref f))) ∧ (∃ f, PySem.W.nsIn K d "every" = some (some (.ref f)) ∧ PySem.W.nsIn K mainGlobals "give_every" = some (some (.ref f))) ∧ (∃ f, PySem.W.nsIn K d "twice" = some (some (.ref f)) ∧ PySem.W.nsIn K mainGlobals "give_twice" = some (some (.ref f))) ∧ (∃ f, PySem.W.nsIn K d "sums" = some (some (.ref f)) ∧ PySem.W.nsIn K mainGlobals "give_sums" = some (some (.ref f))) ∧ (∃ f, PySem.W.nsIn K d "anew" = some (some (.ref f)) ∧ PySem.W.nsIn K mainGlobals "give_anew" = some (some (.ref f))) ∧ (∃ f, PySem.W.nsIn K d "gaps" = some (some (.ref f)) ∧ PySem.W.nsIn K mainGlobals "give_gaps" = some (some (.ref f))) ∧ (∃ f, PySem.W.nsIn K d "groups" = some (some (.ref f)) ∧ PySem.W.nsIn K mainGlobals "give_groups" = some (some (.ref f))) ∧ (∃ f, PySem.W.nsIn K d "count" = some (some (.ref f)) ∧ PySem.W.nsIn K mainGlobals "give_count" = some (some (.ref f)))
theorem givOk {K : PySem.W.Frag} {w : World} {d : Addr} {n : Nat} {t0 t1 t2 t3 t4 t5 t6 t7 t8 t9 : Tok} {f0 f1 f2 f3 f4 f5 f6 f7 f8 f9 : Addr} (g : PySem.W.nsIn K mainGlobals "GIVERS" = some (some (.ref d)))
    (h : K.lookup d = some ⟨.type "dict", none, .dict #[⟨PyData.keyHash w.params "line", .str "line" t0, .ref f0⟩, ⟨PyData.keyHash w.params "turn", .str "turn" t1, .ref f1⟩, ⟨PyData.keyHash w.params "keep", .str "keep" t2, .ref f2⟩, ⟨PyData.keyHash w.params "every", .str "every" t3, .ref f3⟩, ⟨PyData.keyHash w.params "twice", .str "twice" t4, .ref f4⟩, ⟨PyData.keyHash w.params "sums", .str "sums" t5, .ref f5⟩, ⟨PyData.keyHash w.params "anew", .str "anew" t6, .ref f6⟩, ⟨PyData.keyHash w.params "gaps", .str "gaps" t7, .ref f7⟩, ⟨PyData.keyHash w.params "groups", .str "groups" t8, .ref f8⟩, ⟨PyData.keyHash w.params "count", .str "count" t9, .ref f9⟩] n, #[]⟩) (low : (d == sysModules) = false)
    (h0 : PySem.W.nsIn K mainGlobals "give_line" = some (some (.ref f0))) (h1 : PySem.W.nsIn K mainGlobals "give_turn" = some (some (.ref f1))) (h2 : PySem.W.nsIn K mainGlobals "give_keep" = some (some (.ref f2))) (h3 : PySem.W.nsIn K mainGlobals "give_every" = some (some (.ref f3))) (h4 : PySem.W.nsIn K mainGlobals "give_twice" = some (some (.ref f4))) (h5 : PySem.W.nsIn K mainGlobals "give_sums" = some (some (.ref f5))) (h6 : PySem.W.nsIn K mainGlobals "give_anew" = some (some (.ref f6))) (h7 : PySem.W.nsIn K mainGlobals "give_gaps" = some (some (.ref f7))) (h8 : PySem.W.nsIn K mainGlobals "give_groups" = some (some (.ref f8))) (h9 : PySem.W.nsIn K mainGlobals "give_count" = some (some (.ref f9))) : GivOk K w := by
  have h : K.lookup d = some ⟨.type "dict", none, .dict (([("line", t0, .ref f0), ("turn", t1, .ref f1), ("keep", t2, .ref f2), ("every", t3, .ref f3), ("twice", t4, .ref f4), ("sums", t5, .ref f5), ("anew", t6, .ref f6), ("gaps", t7, .ref f7), ("groups", t8, .ref f8), ("count", t9, .ref f9)] : List (Str × Tok × Value)).map (ent w.params)).toArray n, #[]⟩ := h
  exact ⟨d, g, ⟨_, _, kd_ents h low⟩, ⟨f0, (ns_ents h _).trans (by rfl), h0⟩, ⟨f1, (ns_ents h _).trans (by rfl), h1⟩, ⟨f2, (ns_ents h _).trans (by rfl), h2⟩, ⟨f3, (ns_ents h _).trans (by rfl), h3⟩, ⟨f4, (ns_ents h _).trans (by rfl), h4⟩, ⟨f5, (ns_ents h _).trans (by rfl), h5⟩, ⟨f6, (ns_ents h _).trans (by rfl), h6⟩, ⟨f7, (ns_ents h _).trans (by rfl), h7⟩, ⟨f8, (ns_ents h _).trans (by rfl), h8⟩, ⟨f9, (ns_ents h _).trans (by rfl), h9⟩⟩
theorem calOf {P : Program} {w : World} {K : PySem.W.Frag} {mg : Str → Option Value} {base : Heap} {CX : CXT} {k : Nat} {x : Str} {st : Stmt} {f : Addr} {fd : FuncData} {ps : List Str} {sp : Sp} (m : mg x = some (.ref f)) (F : Fun K x x st f fd) (h : FnOk P w K mg base CX k f fd ps sp)
    (b : ∀ (kV doc pm : Value) (an : Option Addr) (cdv ct : Value) (us : List Value), us.length = ps.length → bindArgs (PySem.W.fnOf x x (defArgs st) (defBody st) (defScope st) .none kV doc pm an cdv ct) ⟨us, []⟩ = pure (ps.zip us)) : Cal P w K mg base CX k x ps sp := ⟨f, fd, h, m, F.kp, F.binds b⟩
theorem heldOf {P : Program} {w : World} {K : PySem.W.Frag} {mg : Str → Option Value} {base : Heap} {k : Nat} {x : Str} {st : Stmt} {f f' : Addr} {fd : FuncData} {ps : List Str} {sp : Sp} (a : PySem.W.nsIn K mainGlobals x = some (some (.ref f))) (a' : PySem.W.nsIn K mainGlobals x = some (some (.ref f'))) (F : Fun K x x st f fd) (h : FnOk P w K mg base CX0 k f fd ps sp)
    (b : ∀ (kV doc pm : Value) (an : Option Addr) (cdv ct : Value) (us : List Value), us.length = ps.length → bindArgs (PySem.W.fnOf x x (defArgs st) (defBody st) (defScope st) .none kV doc pm an cdv ct) ⟨us, []⟩ = pure (ps.zip us)) : Held P w K mg base k f' sp := by
  have e := a.symm.trans a'
  cases e
  exact ⟨fd, ps, h, F.kp, F.binds b⟩
end FC
set_option Elab.async false
set_option linter.all false
set_option maxRecDepth 100000
set_option maxHeartbeats 1000000
namespace FC
open PySem PySem.Spec PyProof.Rows L2
/-! ### what the top leaves of the class -/
def MethOk (K : PySem.W.Frag) (C : Addr) (m q : Str) (st : Stmt) : Prop := ∃ (f : Addr) (fd : FuncData), Fun K m q st f fd ∧ Meth K C m f
theorem methOk {K : PySem.W.Frag} {C : Addr} {m q : Str} {st : Stmt} {f : Addr} {oc : Value} {od an : Option Addr} {osl : Array (Option Value)} {kV doc pm cdv ct : Value} (a : PySem.W.findIn K (.ref C) m = some (some (.ref f))) (i : PySem.W.isFn K (.ref f) = true)
    (l : K.lookup f = some ⟨oc, od, .func (PySem.W.fnOf m q (defArgs st) (defBody st) (defScope st) .none kV doc pm an cdv ct), osl⟩) (c : PySem.W.codeIn K cdv q = true) (k : PySem.W.keepIn K (.ref f) = true) : MethOk K C m q st := ⟨f, _, fun_mk l c k, ⟨a, i, k⟩⟩
structure ClsF (K : PySem.W.Frag) (C : Addr) : Prop where
  g : PySem.W.nsIn K mainGlobals "Feed" = some (some (.ref C))
  pg : PySem.W.plainGet K C Str.empty = true
  hd : PySem.W.hasDictIn K C = true
  po : PySem.W.plainOver K C = true
  sa : PySem.W.findIn K (.ref C) "__setattr__" = some (some (.builtin "object.__setattr__"))
  nc : PySem.W.findIn K (.ref C) "chain" = some none
  nn : PySem.W.findIn K (.ref C) "numbers" = some none
  na : PySem.W.findIn K (.ref C) "answers" = some none
  ns : PySem.W.findIn K (.ref C) "states" = some none
  nu : PySem.W.findIn K (.ref C) "undone" = some none
  mki : PySem.W.makesIn K C = true
  kc : PySem.W.keepIn K (.ref C) = true
theorem mcalOf {P : Program} {w : World} {K : PySem.W.Frag} {mg : Str → Option Value} {base : Heap} {CX : CXT} {k : Nat} {C f : Addr} {m q : Str} {st : Stmt} {fd : FuncData} {ps : List Str} {sp : Sp} (F : Fun K m q st f fd) (M : Meth K C m f) (h : FnOk P w K mg base CX k f fd ps sp)
    (b : ∀ (kV doc pm : Value) (an : Option Addr) (cdv ct : Value) (us : List Value), us.length = ps.length → bindArgs (PySem.W.fnOf m q (defArgs st) (defBody st) (defScope st) .none kV doc pm an cdv ct) ⟨us, []⟩ = pure (ps.zip us)) : MCal P w K mg base CX k C m ps sp := ⟨f, fd, h, M, F.binds b⟩
end FC
set_option Elab.async false
set_option linter.all false
set_option maxRecDepth 100000
set_option maxHeartbeats 1000000
namespace FC
open PySem PySem.Spec PyProof.Rows L2
def NumOk (K : PySem.W.Frag) (w : World) : Prop := ∃ d, PySem.W.nsIn K mainGlobals "NUMBERS" = some (some (.ref d)) ∧ NumT K w d
theorem numOk {K : PySem.W.Frag} {w : World} {d : Addr} {n : Nat} {t0 t1 t2 t3 t4 t5 t6 t7 t8 t9 t10 t11 t12 t13 t14 t15 t16 t17 t18 : Tok} {u0 u1 u2 u3 u4 u5 u6 u7 u8 u9 u10 u11 u12 u13 u14 u15 u16 u17 u18 : Tok} (g : PySem.W.nsIn K mainGlobals "NUMBERS" = some (some (.ref d)))
    (h : K.lookup d = some ⟨.type "dict", none, .dict #[⟨PyData.keyHash w.params "-9", .str "-9" t0, .int (-9) u0⟩, ⟨PyData.keyHash w.params "-8", .str "-8" t1, .int (-8) u1⟩, ⟨PyData.keyHash w.params "-7", .str "-7" t2, .int (-7) u2⟩, ⟨PyData.keyHash w.params "-6", .str "-6" t3, .int (-6) u3⟩, ⟨PyData.keyHash w.params "-5", .str "-5" t4, .int (-5) u4⟩, ⟨PyData.keyHash w.params "-4", .str "-4" t5, .int (-4) u5⟩, ⟨PyData.keyHash w.params "-3", .str "-3" t6, .int (-3) u6⟩, ⟨PyData.keyHash w.params "-2", .str "-2" t7, .int (-2) u7⟩, ⟨PyData.keyHash w.params "-1", .str "-1" t8, .int (-1) u8⟩, ⟨PyData.keyHash w.params "0", .str "0" t9, .int (0) u9⟩, ⟨PyData.keyHash w.params "1", .str "1" t10, .int (1) u10⟩, ⟨PyData.keyHash w.params "2", .str "2" t11, .int (2) u11⟩, ⟨PyData.keyHash w.params "3", .str "3" t12, .int (3) u12⟩, ⟨PyData.keyHash w.params "4", .str "4" t13, .int (4) u13⟩, ⟨PyData.keyHash w.params "5", .str "5" t14, .int (5) u14⟩, ⟨PyData.keyHash w.params "6", .str "6" t15, .int (6) u15⟩, ⟨PyData.keyHash w.params "7", .str "7" t16, .int (7) u16⟩, ⟨PyData.keyHash w.params "8", .str "8" t17, .int (8) u17⟩, ⟨PyData.keyHash w.params "9", .str "9" t18, .int (9) u18⟩] n, #[]⟩) (low : (d == sysModules) = false) : NumOk K w := by
  have h : K.lookup d = some ⟨.type "dict", none, .dict (([("-9", t0, .int (-9) u0), ("-8", t1, .int (-8) u1), ("-7", t2, .int (-7) u2), ("-6", t3, .int (-6) u3), ("-5", t4, .int (-5) u4), ("-4", t5, .int (-4) u5), ("-3", t6, .int (-3) u6), ("-2", t7, .int (-2) u7), ("-1", t8, .int (-1) u8), ("0", t9, .int (0) u9), ("1", t10, .int (1) u10), ("2", t11, .int (2) u11), ("3", t12, .int (3) u12), ("4", t13, .int (4) u13), ("5", t14, .int (5) u14), ("6", t15, .int (6) u15), ("7", t16, .int (7) u16), ("8", t17, .int (8) u17), ("9", t18, .int (9) u18)] : List (Str × Tok × Value)).map (ent w.params)).toArray n, #[]⟩ := h
  refine ⟨d, g, ⟨_, _, kd_ents h low⟩, fun z => ⟨_, ns_ents h z, ?_⟩⟩
  have al : All2 (fun (i : Int) v => ∃ t, v = .int i t) [("-9", t0, .int (-9) u0), ("-8", t1, .int (-8) u1), ("-7", t2, .int (-7) u2), ("-6", t3, .int (-6) u3), ("-5", t4, .int (-5) u4), ("-4", t5, .int (-4) u5), ("-3", t6, .int (-3) u6), ("-2", t7, .int (-2) u7), ("-1", t8, .int (-1) u8), ("0", t9, .int (0) u9), ("1", t10, .int (1) u10), ("2", t11, .int (2) u11), ("3", t12, .int (3) u12), ("4", t13, .int (4) u13), ("5", t14, .int (5) u14), ("6", t15, .int (6) u15), ("7", t16, .int (7) u16), ("8", t17, .int (8) u17), ("9", t18, .int (9) u18)] numTab := ⟨rfl, ⟨_, rfl⟩, ⟨rfl, ⟨_, rfl⟩, ⟨rfl, ⟨_, rfl⟩, ⟨rfl, ⟨_, rfl⟩, ⟨rfl, ⟨_, rfl⟩, ⟨rfl, ⟨_, rfl⟩, ⟨rfl, ⟨_, rfl⟩, ⟨rfl, ⟨_, rfl⟩, ⟨rfl, ⟨_, rfl⟩, ⟨rfl, ⟨_, rfl⟩, ⟨rfl, ⟨_, rfl⟩, ⟨rfl, ⟨_, rfl⟩, ⟨rfl, ⟨_, rfl⟩, ⟨rfl, ⟨_, rfl⟩, ⟨rfl, ⟨_, rfl⟩, ⟨rfl, ⟨_, rfl⟩, ⟨rfl, ⟨_, rfl⟩, ⟨rfl, ⟨_, rfl⟩, ⟨rfl, ⟨_, rfl⟩, trivial⟩⟩⟩⟩⟩⟩⟩⟩⟩⟩⟩⟩⟩⟩⟩⟩⟩⟩⟩
  have := all2_find al z
  revert this
  cases numTab.lookup z with
  | none => exact fun h => h
  | some ls => exact fun ⟨v, h1, t, h2⟩ => ⟨t, by rw [h1, h2]⟩
end FC
set_option Elab.async false
set_option linter.all false
set_option maxRecDepth 100000
set_option maxHeartbeats 1000000
namespace FC
open PySem PySem.Spec PyProof.Rows L2
def ClsOk (K : PySem.W.Frag) : Prop := ∃ c0 c1 c2 c3 c4 c5 CE : Addr, PySem.W.nsIn K mainGlobals "InvalidChain" = some (some (.ref c0)) ∧ PySem.W.nsIn K mainGlobals "InvalidRow" = some (some (.ref c1)) ∧ PySem.W.nsIn K mainGlobals "InvalidNumber" = some (some (.ref c2)) ∧ PySem.W.nsIn K mainGlobals "InvalidText" = some (some (.ref c3)) ∧ PySem.W.nsIn K mainGlobals "TooMany" = some (some (.ref c4)) ∧ PySem.W.nsIn K mainGlobals "NothingToUndo" = some (some (.ref c5)) ∧ PySem.W.nsIn K mainGlobals "ChainError" = some (some (.ref CE)) ∧ OneT K c0 0 c0 c1 c2 c3 c4 c5 ∧ PySem.W.exmOne K (.ref c0) (.ref CE) = some true ∧ OneT K c1 1 c0 c1 c2 c3 c4 c5 ∧ PySem.W.exmOne K (.ref c1) (.ref CE) = some true ∧ OneT K c2 2 c0 c1 c2 c3 c4 c5 ∧ PySem.W.exmOne K (.ref c2) (.ref CE) = some true ∧ ExcQ K c0 ∧ ExcQ K c1 ∧ ExcQ K c2 ∧ ExcQ K c3 ∧ ExcQ K c4
theorem clsOk {K : PySem.W.Frag} {c0 c1 c2 c3 c4 c5 CE : Addr} (g0 : PySem.W.nsIn K mainGlobals "InvalidChain" = some (some (.ref c0))) (g1 : PySem.W.nsIn K mainGlobals "InvalidRow" = some (some (.ref c1))) (g2 : PySem.W.nsIn K mainGlobals "InvalidNumber" = some (some (.ref c2))) (g3 : PySem.W.nsIn K mainGlobals "InvalidText" = some (some (.ref c3))) (g4 : PySem.W.nsIn K mainGlobals "TooMany" = some (some (.ref c4))) (g5 : PySem.W.nsIn K mainGlobals "NothingToUndo" = some (some (.ref c5))) (gE : PySem.W.nsIn K mainGlobals "ChainError" = some (some (.ref CE))) (one0 : OneT K c0 0 c0 c1 c2 c3 c4 c5) (em0 : PySem.W.exmOne K (.ref c0) (.ref CE) = some true) (one1 : OneT K c1 1 c0 c1 c2 c3 c4 c5) (em1 : PySem.W.exmOne K (.ref c1) (.ref CE) = some true) (one2 : OneT K c2 2 c0 c1 c2 c3 c4 c5) (em2 : PySem.W.exmOne K (.ref c2) (.ref CE) = some true) (q0 : ExcQ K c0) (q1 : ExcQ K c1) (q2 : ExcQ K c2) (q3 : ExcQ K c3) (q4 : ExcQ K c4) : ClsOk K := ⟨_, _, _, _, _, _, _, g0, g1, g2, g3, g4, g5, gE, one0, em0, one1, em1, one2, em2, q0, q1, q2, q3, q4⟩
structure BltOk (K : PySem.W.Frag) : Prop where
  n0 : PySem.W.nsIn K mainGlobals "isinstance" = some none
  n1 : PySem.W.nsIn K mainGlobals "int" = some none
  n2 : PySem.W.nsIn K mainGlobals "bool" = some none
  n3 : PySem.W.nsIn K mainGlobals "str" = some none
  n4 : PySem.W.nsIn K mainGlobals "tuple" = some none
  n5 : PySem.W.nsIn K mainGlobals "len" = some none
  n6 : PySem.W.nsIn K mainGlobals "all" = some none
  n7 : PySem.W.nsIn K mainGlobals "zip" = some none
  n8 : PySem.W.nsIn K mainGlobals "range" = some none
  n9 : PySem.W.nsIn K mainGlobals "max" = some none
  n10 : PySem.W.nsIn K mainGlobals "min" = some none
  n11 : PySem.W.nsIn K mainGlobals "sum" = some none
  n12 : PySem.W.nsIn K mainGlobals "ValueError" = some none
structure DefsOk (K : PySem.W.Frag) : Prop where
  d0 : DefOk K "is_chain" sIsChain
  d1 : DefOk K "check_chain" sCheck
  d2 : DefOk K "is_whole" sIsWhole
  d3 : DefOk K "is_step" sIsStep
  d4 : DefOk K "are_within" sWithin
  d5 : DefOk K "keeps_limits" sLimits
  d6 : DefOk K "is_number" sIsNumber
  d7 : DefOk K "check_row" sCheckRow
  d8 : DefOk K "give_line" sGvLine
  d9 : DefOk K "give_turn" sGvTurn
  d10 : DefOk K "give_keep" sGvKeep
  d11 : DefOk K "give_every" sGvEvery
  d12 : DefOk K "give_twice" sGvTwice
  d13 : DefOk K "give_sums" sGvSums
  d14 : DefOk K "give_anew" sGvAnew
  d15 : DefOk K "give_gaps" sGvGaps
  d16 : DefOk K "give_groups" sGvGroups
  d17 : DefOk K "give_count" sGvCount
  d18 : DefOk K "pass_through" sPassT
  d19 : DefOk K "start" sStartP
  d20 : DefOk K "advance" sAdvance
  d21 : DefOk K "run_on" sRunOn
  d22 : DefOk K "run" sRunP
  d23 : DefOk K "read_step" sReadStep
  d24 : DefOk K "parse_chain" sParse
  d25 : DefOk K "mix" sMix
  d26 : DefOk K "_law_cell" sCell
  d27 : DefOk K "_law_drawn" sDrawn
  d28 : DefOk K "_law_roll" sRoll
  d29 : DefOk K "_law_rounds" sRounds
  d30 : DefOk K "_law_term" sTerm
  d31 : DefOk K "_law_told" sTold
def FeedOk (K : PySem.W.Frag) : Prop := ∃ C : Addr, ClsF K C ∧ MethOk K C "__init__" "Feed.__init__" (fdM 0) ∧ MethOk K C "put" "Feed.put" (fdM 1) ∧ MethOk K C "given" "Feed.given" (fdM 5) ∧ MethOk K C "take" "Feed.take" (fdM 6)
theorem look {l : PySem.W.OpenLaw} {w : World} {K : PySem.W.Frag} {h : Heap} {mg : Str → Option Value} {fa Pt Pt2 : Addr} (X : K.In h) (G : h.Ns mainGlobals mg) (hfa : mg "law" = some (.ref fa)) (hPt : h.get? Pt = some { cls := .none, data := .fields #[] }) (nPt : K.lookup Pt = none) (hPt2 : h.get? Pt2 = some { cls := .none, data := .fields #[] }) (nPt2 : K.lookup Pt2 = none) (hne : Pt ≠ Pt2)
    (D : DefsOk K) (Bt : BltOk K) (tL : LetOk K w) (tB : BndOk K w) (tI : LimOk K) {tM : Tok} (mM : PySem.W.nsIn K mainGlobals "MOST_STEPS" = some (some (.int 4 tM))) (tGi : GivOk K w) {nh : Addr} (mNh : PySem.W.nsIn K mainGlobals "NOTHING_HELD" = some (some (.ref nh))) (tNh : TupV K nh [.int 0, .int 0]) {tMn : Tok} (mMn : PySem.W.nsIn K mainGlobals "MOST_NUMBERS" = some (some (.int 60 tMn))) {tGr : Tok} (mGr : PySem.W.nsIn K mainGlobals "GREATEST" = some (some (.int big tGr))) (tN : NumOk K w) (tF : FeedOk K) (cl : ClsOk K)
    {f c : Addr} {oc kV doc pm ct : Value} {an od : Option Addr} {osl : Array (Option Value)} (aF : PySem.W.nsIn K mainGlobals "law" = some (some (.ref f)))
    (lF : K.lookup f = some ⟨oc, od, .func (PySem.W.fnOf "law" "law" (defArgs sLaw) (defBody sLaw) (defScope sLaw) .none kV doc pm an (.ref c) ct), osl⟩) (cF : PySem.W.codeIn K (.ref c) "law" = true) (hF : PySem.W.codeHdIn K c Pt = true)
    {f' c' : Addr} {oc' kV' doc' pm' ct' : Value} {an' od' : Option Addr} {osl' : Array (Option Value)} (aR : PySem.W.nsIn K mainGlobals "_law_right_numbers" = some (some (.ref f')))
    (lR : K.lookup f' = some ⟨oc', od', .func (PySem.W.fnOf "_law_right_numbers" "_law_right_numbers" (defArgs sRightN) (defBody sRightN) (defScope sRightN) .none kV' doc' pm' an' (.ref c') ct'), osl'⟩) (cR : PySem.W.codeIn K (.ref c') "_law_right_numbers" = true) (kR : PySem.W.keepIn K (.ref f') = true) (hR : PySem.W.codeHdIn K c' Pt2 = true) :
    LamX.LawAtS l w K CX0 13 63 "_law_script" mg fa h := by
  have e := hfa.symm.trans (PySem.W.mg_of X G aF)
  cases e
  have two : ∀ (A : Addr × Addr → Prop), A (c, Pt) → A (c', Pt2) → ∀ p ∈ [(c, Pt), (c', Pt2)], A p := fun A h1 h2 p hp => by
    simp only [List.mem_cons, List.mem_nil_iff, or_false] at hp
    rcases hp with z | z
    · rw [z]; exact h1
    · rw [z]; exact h2
  refine ⟨PySem.W.fnOf "law" "law" (defArgs sLaw) (defBody sLaw) (defScope sLaw) .none kV doc pm an (.ref c) ct, [(c, Pt), (c', Pt2)], spLaw K Pt Pt2, two _ hPt hPt2, two _ nPt nPt2, two _ (PySem.W.codeHd_of_K X hF) (PySem.W.codeHd_of_K X hR), fun s u => .of_eq rfl,
    fun H a ns hl _ hT hS => ⟨a, ns, rfl, hS, hl, hT (c, Pt) List.mem_cons_self, hT (c', Pt2) (List.mem_cons_of_mem _ List.mem_cons_self), fun _ => rfl⟩, fun base _ _ hTB => ?_⟩
  have TB : LamX.TabB base mg c Pt := hTB _ (List.mem_cons_self (a := (c, Pt)))
  have TB2 : LamX.TabB base mg c' Pt2 := hTB _ (List.mem_cons_of_mem (c, Pt) (List.mem_cons_self (a := (c', Pt2))))
  have T : Blt mg := ⟨PySem.W.mg_none_of X G Bt.n0, PySem.W.mg_none_of X G Bt.n1, PySem.W.mg_none_of X G Bt.n2, PySem.W.mg_none_of X G Bt.n3, PySem.W.mg_none_of X G Bt.n4, PySem.W.mg_none_of X G Bt.n5, PySem.W.mg_none_of X G Bt.n6, PySem.W.mg_none_of X G Bt.n7, PySem.W.mg_none_of X G Bt.n8, PySem.W.mg_none_of X G Bt.n9, PySem.W.mg_none_of X G Bt.n10, PySem.W.mg_none_of X G Bt.n11, PySem.W.mg_none_of X G Bt.n12⟩
  obtain ⟨fIC, fdIC, aIC, FIC⟩ := D.d0
  have mIC := PySem.W.mg_of X G aIC
  obtain ⟨fCK, fdCK, aCK, FCK⟩ := D.d1
  have mCK := PySem.W.mg_of X G aCK
  obtain ⟨fIW, fdIW, aIW, FIW⟩ := D.d2
  have mIW := PySem.W.mg_of X G aIW
  obtain ⟨fIS, fdIS, aIS, FIS⟩ := D.d3
  have mIS := PySem.W.mg_of X G aIS
  obtain ⟨fWI, fdWI, aWI, FWI⟩ := D.d4
  have mWI := PySem.W.mg_of X G aWI
  obtain ⟨fKL, fdKL, aKL, FKL⟩ := D.d5
  have mKL := PySem.W.mg_of X G aKL
  obtain ⟨fIN, fdIN, aIN, FIN⟩ := D.d6
  have mIN := PySem.W.mg_of X G aIN
  obtain ⟨fCR, fdCR, aCR, FCR⟩ := D.d7
  have mCR := PySem.W.mg_of X G aCR
  obtain ⟨fGLine, fdGLine, aGLine, FGLine⟩ := D.d8
  have mGLine := PySem.W.mg_of X G aGLine
  obtain ⟨fGTurn, fdGTurn, aGTurn, FGTurn⟩ := D.d9
  have mGTurn := PySem.W.mg_of X G aGTurn
  obtain ⟨fGKeep, fdGKeep, aGKeep, FGKeep⟩ := D.d10
  have mGKeep := PySem.W.mg_of X G aGKeep
  obtain ⟨fGEvery, fdGEvery, aGEvery, FGEvery⟩ := D.d11
  have mGEvery := PySem.W.mg_of X G aGEvery
  obtain ⟨fGTwice, fdGTwice, aGTwice, FGTwice⟩ := D.d12
  have mGTwice := PySem.W.mg_of X G aGTwice
  obtain ⟨fGSums, fdGSums, aGSums, FGSums⟩ := D.d13
  have mGSums := PySem.W.mg_of X G aGSums
  obtain ⟨fGAnew, fdGAnew, aGAnew, FGAnew⟩ := D.d14
  have mGAnew := PySem.W.mg_of X G aGAnew
  obtain ⟨fGGaps, fdGGaps, aGGaps, FGGaps⟩ := D.d15
  have mGGaps := PySem.W.mg_of X G aGGaps
  obtain ⟨fGGroups, fdGGroups, aGGroups, FGGroups⟩ := D.d16
  have mGGroups := PySem.W.mg_of X G aGGroups
  obtain ⟨fGCount, fdGCount, aGCount, FGCount⟩ := D.d17
  have mGCount := PySem.W.mg_of X G aGCount
  obtain ⟨fPT, fdPT, aPT, FPT⟩ := D.d18
  have mPT := PySem.W.mg_of X G aPT
  obtain ⟨fSA, fdSA, aSA, FSA⟩ := D.d19
  have mSA := PySem.W.mg_of X G aSA
  obtain ⟨fAD, fdAD, aAD, FAD⟩ := D.d20
  have mAD := PySem.W.mg_of X G aAD
  obtain ⟨fON, fdON, aON, FON⟩ := D.d21
  have mON := PySem.W.mg_of X G aON
  obtain ⟨fRU, fdRU, aRU, FRU⟩ := D.d22
  have mRU := PySem.W.mg_of X G aRU
  obtain ⟨fRS, fdRS, aRS, FRS⟩ := D.d23
  have mRS := PySem.W.mg_of X G aRS
  obtain ⟨fPA, fdPA, aPA, FPA⟩ := D.d24
  have mPA := PySem.W.mg_of X G aPA
  obtain ⟨fMX, fdMX, aMX, FMX⟩ := D.d25
  have mMX := PySem.W.mg_of X G aMX
  obtain ⟨fCE_, fdCE_, aCE_, FCE_⟩ := D.d26
  have mCE_ := PySem.W.mg_of X G aCE_
  obtain ⟨fDR, fdDR, aDR, FDR⟩ := D.d27
  have mDR := PySem.W.mg_of X G aDR
  obtain ⟨fRO, fdRO, aRO, FRO⟩ := D.d28
  have mRO := PySem.W.mg_of X G aRO
  obtain ⟨fRN, fdRN, aRN, FRN⟩ := D.d29
  have mRN := PySem.W.mg_of X G aRN
  obtain ⟨fTE, fdTE, aTE, FTE⟩ := D.d30
  have mTE := PySem.W.mg_of X G aTE
  obtain ⟨fTO, fdTO, aTO, FTO⟩ := D.d31
  have mTO := PySem.W.mg_of X G aTO
  obtain ⟨dL, gL, tL⟩ := tL
  obtain ⟨dB, gB, tB⟩ := tB
  obtain ⟨dI, gI, tI⟩ := tI
  obtain ⟨dN, gN, tN⟩ := tN
  obtain ⟨c0, c1, c2, c3, c4, c5, CE, g0, g1, g2, g3, g4, g5, gE, one0, em0, one1, em1, one2, em2, q0, q1, q2, q3, q4⟩ := cl
  have x0 : ExcT K mg "InvalidChain" c0 := ⟨PySem.W.mg_of X G g0, q0.1, q0.2.1, q0.2.2.1, q0.2.2.2⟩
  have x1 : ExcT K mg "InvalidRow" c1 := ⟨PySem.W.mg_of X G g1, q1.1, q1.2.1, q1.2.2.1, q1.2.2.2⟩
  have x2 : ExcT K mg "InvalidNumber" c2 := ⟨PySem.W.mg_of X G g2, q2.1, q2.2.1, q2.2.2.1, q2.2.2.2⟩
  have x3 : ExcT K mg "InvalidText" c3 := ⟨PySem.W.mg_of X G g3, q3.1, q3.2.1, q3.2.2.1, q3.2.2.2⟩
  have x4 : ExcT K mg "TooMany" c4 := ⟨PySem.W.mg_of X G g4, q4.1, q4.2.1, q4.2.2.1, q4.2.2.2⟩
  have six : SixT mg c0 c1 c2 c3 c4 c5 := ⟨PySem.W.mg_of X G g0, PySem.W.mg_of X G g1, PySem.W.mg_of X G g2, PySem.W.mg_of X G g3, PySem.W.mg_of X G g4, PySem.W.mg_of X G g5⟩
  obtain ⟨C, kF, ⟨f_init, fd_init, F_init, M_init⟩, ⟨f_put, fd_put, F_put, M_put⟩, ⟨f_given, fd_given, F_given, M_given⟩, ⟨f_take, fd_take, F_take, M_take⟩⟩ := tF
  have FT : FdT K mg C := ⟨⟨kF.pg, kF.hd, kF.po, kF.sa⟩, kF.nc, kF.nn, kF.na, kF.ns, kF.nu, PySem.W.mg_of X G kF.g⟩
  obtain ⟨dGi, gGi, kGi, ⟨p0, u0, v0⟩, ⟨p1, u1, v1⟩, ⟨p2, u2, v2⟩, ⟨p3, u3, v3⟩, ⟨p4, u4, v4⟩, ⟨p5, u5, v5⟩, ⟨p6, u6, v6⟩, ⟨p7, u7, v7⟩, ⟨p8, u8, v8⟩, ⟨p9, u9, v9⟩⟩ := tGi
  have tGi : GivT l.prog w K mg base dGi := ⟨kGi, fun p => by
    cases p <;> first
      | exact ⟨p0, u0, heldOf aGLine v0 FGLine (ok_gvLine FGLine) (fun _ _ _ _ _ _ us hl => match us, hl with | [_, _, _], _ => rfl)⟩
      | exact ⟨p1, u1, heldOf aGTurn v1 FGTurn (ok_gvTurn FGTurn) (fun _ _ _ _ _ _ us hl => match us, hl with | [_, _, _], _ => rfl)⟩
      | exact ⟨p2, u2, heldOf aGKeep v2 FGKeep (ok_gvKeep FGKeep) (fun _ _ _ _ _ _ us hl => match us, hl with | [_, _, _], _ => rfl)⟩
      | exact ⟨p3, u3, heldOf aGEvery v3 FGEvery (ok_gvEvery FGEvery) (fun _ _ _ _ _ _ us hl => match us, hl with | [_, _, _], _ => rfl)⟩
      | exact ⟨p4, u4, heldOf aGTwice v4 FGTwice (ok_gvTwice FGTwice) (fun _ _ _ _ _ _ us hl => match us, hl with | [_, _, _], _ => rfl)⟩
      | exact ⟨p5, u5, heldOf aGSums v5 FGSums (ok_gvSums FGSums) (fun _ _ _ _ _ _ us hl => match us, hl with | [_, _, _], _ => rfl)⟩
      | exact ⟨p6, u6, heldOf aGAnew v6 FGAnew (ok_gvAnew FGAnew) (fun _ _ _ _ _ _ us hl => match us, hl with | [_, _, _], _ => rfl)⟩
      | exact ⟨p7, u7, heldOf aGGaps v7 FGGaps (ok_gvGaps FGGaps) (fun _ _ _ _ _ _ us hl => match us, hl with | [_, _, _], _ => rfl)⟩
      | exact ⟨p8, u8, heldOf aGGroups v8 FGGroups (ok_gvGroups FGGroups (PySem.W.mg_of X G mNh) tNh.sq) (fun _ _ _ _ _ _ us hl => match us, hl with | [_, _, _], _ => rfl)⟩
      | exact ⟨p9, u9, heldOf aGCount v9 FGCount (ok_gvCount FGCount) (fun _ _ _ _ _ _ us hl => match us, hl with | [_, _, _], _ => rfl)⟩⟩
  have CIW := calOf (P := l.prog) (w := w) (base := base) mIW FIW (ok_isWhole FIW T) (fun _ _ _ _ _ _ us hl => match us, hl with | [_], _ => rfl)
  have CWI := calOf (P := l.prog) (w := w) (base := base) mWI FWI (ok_within FWI T CIW (PySem.W.mg_of X G gB) tB) (fun _ _ _ _ _ _ us hl => match us, hl with | [_, _], _ => rfl)
  have CIS := calOf (P := l.prog) (w := w) (base := base) mIS FIS (ok_isStep FIS T CWI (PySem.W.mg_of X G gL) tL) (fun _ _ _ _ _ _ us hl => match us, hl with | [_], _ => rfl)
  have CKL := calOf (P := l.prog) (w := w) (base := base) mKL FKL (ok_limits FKL T (PySem.W.mg_of X G gI) tI) (fun _ _ _ _ _ _ us hl => match us, hl with | [_], _ => rfl)
  have CIC := calOf (P := l.prog) (w := w) (base := base) mIC FIC (ok_isChain FIC T CIS CKL (PySem.W.mg_of X G mM)) (fun _ _ _ _ _ _ us hl => match us, hl with | [_], _ => rfl)
  have CCK := calOf (P := l.prog) (w := w) (base := base) mCK FCK (ok_check FCK CIC x0) (fun _ _ _ _ _ _ us hl => match us, hl with | [_], _ => rfl)
  have CIN := calOf (P := l.prog) (w := w) (base := base) mIN FIN (ok_isNumber FIN CIW (PySem.W.mg_of X G mGr)) (fun _ _ _ _ _ _ us hl => match us, hl with | [_], _ => rfl)
  have CCR := calOf (P := l.prog) (w := w) (base := base) mCR FCR (ok_checkRow FCR T CIN (PySem.W.mg_of X G mMn) x1) (fun _ _ _ _ _ _ us hl => match us, hl with | [_], _ => rfl)
  have CPT := calOf (P := l.prog) (w := w) (base := base) mPT FPT (ok_passT FPT (PySem.W.mg_of X G gGi) tGi) (fun _ _ _ _ _ _ us hl => match us, hl with | [_, _, _], _ => rfl)
  have CSA := calOf (P := l.prog) (w := w) (base := base) mSA FSA (ok_startP FSA T (PySem.W.mg_of X G mNh) tNh.sq) (fun _ _ _ _ _ _ us hl => match us, hl with | [_], _ => rfl)
  have CAD := calOf (P := l.prog) (w := w) (base := base) mAD FAD (ok_advance FAD T CPT) (fun _ _ _ _ _ _ us hl => match us, hl with | [_, _, _], _ => rfl)
  have CON := calOf (P := l.prog) (w := w) (base := base) mON FON (ok_runOn FON T CAD) (fun _ _ _ _ _ _ us hl => match us, hl with | [_, _, _], _ => rfl)
  have CRU := calOf (P := l.prog) (w := w) (base := base) mRU FRU (ok_runP FRU CCK CCR CSA CON) (fun _ _ _ _ _ _ us hl => match us, hl with | [_, _], _ => rfl)
  have CRS := calOf (P := l.prog) (w := w) (base := base) mRS FRS (ok_readStep FRS (PySem.W.mg_of X G gN) tN) (fun _ _ _ _ _ _ us hl => match us, hl with | [_], _ => rfl)
  have CPA := calOf (P := l.prog) (w := w) (base := base) mPA FPA (ok_parse FPA T x3 CRS CIC) (fun _ _ _ _ _ _ us hl => match us, hl with | [_], _ => rfl)
  have CMX := calOf (P := l.prog) (w := w) (base := base) mMX FMX (ok_mixE FMX CCK CCR) (fun _ _ _ _ _ _ us hl => match us, hl with | [_, _], _ => rfl)
  have CCE_ := calOf (P := l.prog) (w := w) (base := base) mCE_ FCE_ (ok_cell FCE_ T) (fun _ _ _ _ _ _ us hl => match us, hl with | [_, _], _ => rfl)
  have CDR := calOf (P := l.prog) (w := w) (base := base) mDR FDR (ok_drawn FDR) (fun _ _ _ _ _ _ us hl => match us, hl with | [_, _], _ => rfl)
  have CRO := calOf (P := l.prog) (w := w) (base := base) mRO FRO (ok_roll FRO CDR) (fun _ _ _ _ _ _ us hl => match us, hl with | [_, _], _ => rfl)
  have CRN := calOf (P := l.prog) (w := w) (base := base) mRN FRN (ok_rounds FRN T CCE_) (fun _ _ _ _ _ _ us hl => match us, hl with | [_, _], _ => rfl)
  have G_take : FnOk l.prog w K mg base CX0 4 f_take fd_take ["self", "number"] (spTake K C) := ok_take F_take FT CSA CAD
  have b_take := F_take.binds (ps := ["self", "number"]) (fun _ _ _ _ _ _ us hl => match us, hl with | [_, _], _ => rfl)
  have MK : MkCal l.prog w K mg base (L2N.CX l.prog w) 6 C "Feed" ["self", "chain"] (spInitF K C c0) := ⟨f_init, fd_init, ok_initF F_init FT CCK, ⟨kF.mki, M_init.at_, M_init.fn, kF.kc⟩, PySem.W.mg_of X G kF.g, F_init.binds (fun _ _ _ _ _ _ us hl => match us, hl with | [_, _], _ => rfl)⟩
  have MC_put := mcalOf (P := l.prog) (w := w) (base := base) F_put M_put (ok_put F_put FT T CIN (PySem.W.mg_of X G mMn) G_take b_take M_take x2 x4) (fun _ _ _ _ _ _ us hl => match us, hl with | [_, _], _ => rfl)
  have MC_given := mcalOf (P := l.prog) (w := w) (base := base) F_given M_given (ok_givF F_given FT T) (fun _ _ _ _ _ _ us hl => match us, hl with | [_], _ => rfl)
  have LN : LibN l.prog w K mg base fTO fTE CE c0 c1 c2 c3 c4 c5 C fdTO fdTE := ⟨T, MK, MC_put, MC_given, FT, CRU, CMX, FTO, FTO.binds (fun _ _ _ _ _ _ us hl => match us, hl with | [_], _ => rfl), mTO, ok_term FTE T six, mTE, FTE.kp, FTE.binds (fun _ _ _ _ _ _ us hl => match us, hl with | [_], _ => rfl), PySem.W.mg_of X G gE, one0, em0, one1, em1, one2, em2⟩
  have hTm : (Pt2, qR) ∈ [(Pt, qL), (Pt2, qR)] := List.mem_cons_of_mem _ List.mem_cons_self
  have hTu : ∀ p ∈ [(Pt, qL), (Pt2, qR)], p.1 = Pt2 → p.2 = qR := fun p hp e => by
    simp only [List.mem_cons, List.mem_nil_iff, or_false] at hp
    rcases hp with z | z
    · rw [z] at e
      exact absurd e hne
    · rw [z]
  have CR21 := calOf (P := l.prog) (w := w) (base := base) (PySem.W.mg_of X G aR) (fun_mk (st := sRightN) lR cR kR) (ok_rightN (TT := [(Pt, qL), (Pt2, qR)]) LN TB2 hTm hTu lR cR) (fun _ _ _ _ _ _ us hl => match us, hl with | [], _ => rfl)
  have L : Lib21 l.prog w K mg base fTO fTE CE c0 c1 c2 c3 c4 c5 C fdTO fdTE [(Pt, qL), (Pt2, qR)] := ⟨LN, CRN, CRO, CIC, CPA, CR21⟩
  exact ok_law rfl hne L TB lF cF
end FC
set_option Elab.async false
set_option linter.all false
set_option maxRecDepth 100000
set_option maxHeartbeats 4000000
/-! What the top leaves, by one look (a Bool) at the written part. -/
namespace FC
open PySem PySem.Spec PyProof.Rows L2
section
variable {K : PySem.W.Frag}
theorem b2 {a b : Bool} (h : (a && b) = true) : a = true ∧ b = true := Bool.and_eq_true_iff.mp h
def refAt (K : PySem.W.Frag) (d : Addr) (z : Str) : Addr := match PySem.W.nsIn K d z with
  | some (some (.ref a)) => a
  | _ => 0
def isRef (K : PySem.W.Frag) (d : Addr) (z : Str) : Bool := decide (PySem.W.nsIn K d z = some (some (.ref (refAt K d z))))
def tupA (K : PySem.W.Frag) (a : Addr) (vs : List V) : Bool := match K.lookup a with
  | some ⟨.type c, _, .seq its _, _⟩ => decide (c = "tuple") && (decide (its.size ≤ sizeLine) && He.relAll vs its.toList)
  | _ => false
theorem tupA_ok {a : Addr} {vs : List V} (h : tupA K a vs = true) : TupV K a vs := by
  unfold tupA at h
  cases q : K.lookup a with
  | none => rw [q] at h; cases h
  | some o =>
    obtain ⟨oc, od, dt, osl⟩ := o
    rw [q] at h
    cases oc with
    | type c =>
      cases dt with
      | seq its n =>
        obtain ⟨h1, h2⟩ := b2 (show (decide (c = "tuple") && (decide (its.size ≤ sizeLine) && He.relAll vs its.toList)) = true from h)
        obtain ⟨h3, h4⟩ := b2 h2
        exact ⟨_, its, n, q, congrArg Value.type (of_decide_eq_true h1), rfl, of_decide_eq_true h3, He.relAll_ok h4⟩
      | _ => cases h
    | _ => cases dt <;> cases h
/-- the items of a tuple, if they are objects -/
def itemAt (K : PySem.W.Frag) (a : Addr) (i : Nat) : Addr := match K.lookup a with
  | some ⟨_, _, .seq its _, _⟩ => (match its.toList[i]? with
    | some (.ref b) => b
    | _ => 0)
  | _ => 0
theorem keys_out {P : Params} {z : Str} : ∀ {l : List DictEntry} {ks : List Str}, l.map He.keyOf = He.keysIn P ks → z ∉ ks → l.find? (·.key.isStr z) = none ∧ l.any (·.refKey) = false
  | [], _, _, _ => ⟨rfl, rfl⟩
  | e :: r, [], h, _ => by cases h
  | e :: r, k :: ks, h, hz => by
    have h1 : He.keyOf e :: r.map He.keyOf = some (k, PyData.keyHash P k) :: He.keysIn P ks := h
    injection h1 with h2 h3
    obtain ⟨i1, i2⟩ := keys_out h3 (fun q => hz (List.mem_cons_of_mem _ q))
    unfold He.keyOf at h2
    split at h2
    · rename_i x t q
      have h4 := Option.some.inj h2
      obtain ⟨h5, _⟩ := Prod.mk.inj h4
      have hx : x ≠ z := fun w => hz (by rw [← w, h5]; exact List.mem_cons_self)
      have f1 : e.key.isStr z = false := by
        rw [q]
        show (x == z) = false
        exact beq_eq_false_iff_ne.mpr hx
      have f2 : e.refKey = false := by
        obtain ⟨eh, ek, ev⟩ := e
        dsimp only at q
        subst q
        rfl
      exact ⟨by rw [List.find?_cons_of_neg (by rw [f1]; exact Bool.false_ne_true)]; exact i1, by rw [List.any_cons, f2, i2]; rfl⟩
    · cases h2
theorem dic_out {P : Params} {a : Addr} {ks : List Str} (h : He.dicW K a = some (He.keysIn P ks)) {z : Str} (hz : z ∉ ks) : PySem.W.nsIn K a z = some none := by
  unfold He.dicW at h
  cases q : K.lookup a with
  | none => rw [q] at h; cases h
  | some o =>
    obtain ⟨oc, od, dt, osl⟩ := o
    rw [q] at h
    cases oc with
    | type c =>
      cases od with
      | none =>
        cases dt with
        | dict es n =>
          dsimp only at h
          cases t : (decide (c = "dict") && (osl.isEmpty && !(a == sysModules))) with
          | false =>
            rw [t] at h
            cases h
          | true =>
            rw [t] at h
            obtain ⟨k1, k2⟩ := keys_out (Option.some.inj h) hz
            unfold PySem.W.nsIn
            rw [q]
            show (match es.toList.find? (·.key.isStr z) with
              | some e => some (some e.val)
              | none => if es.toList.any (·.refKey) then none else some none) = _
            rw [k1, k2]
            rfl
        | _ => cases h
      | some d => cases dt <;> cases h
    | _ => cases od <;> cases dt <;> cases h
theorem tab_at {fa : List He.Fa} {fn : List He.DefD} {ts : List He.Tab} {w : World} (c : He.SaysT fa fn ts w K) {t : He.Tab} (h : t ∈ ts) : He.dicW K (t.1 K) = some (He.keysIn w.params t.2) := by
  have e : ts.map (fun t => He.dicW K (t.1 K)) = ts.map fun t => some (He.keysIn w.params t.2) := congrArg (fun z : He.AlT => z.2) c
  obtain ⟨i, hi, e1⟩ := List.mem_iff_getElem.mp h
  have e2 : (ts.map fun t => He.dicW K (t.1 K))[i]? = (ts.map fun t => some (He.keysIn w.params t.2))[i]? := by rw [e]
  rw [List.getElem?_map, List.getElem?_map, List.getElem?_eq_getElem hi, e1] at e2
  exact Option.some.inj e2
/-! ### the tables -/
def gB (K : PySem.W.Frag) (x : Str) : Bool := decide (PySem.W.nsIn K mainGlobals x = some (some (.ref (He.ga K x))))
theorem gB_ok {x : Str} (h : gB K x = true) : PySem.W.nsIn K mainGlobals x = some (some (.ref (He.ga K x))) := of_decide_eq_true h
theorem glo_at {x : Str} (h : (He.Fa.glo x).ok K = true) : PySem.W.nsIn K mainGlobals x = some (some (.ref (He.ga K x))) := He.eqO_ok h
theorem free_at {x : Str} (h : (He.Fa.free x).ok K = true) : PySem.W.nsIn K mainGlobals x = some none := He.eqO_ok h
def letTab : He.Tab := (fun K => He.ga K "LETTERS", tab.map (·.1))
def letB (K : PySem.W.Frag) : Bool := gB K "LETTERS" && tab.all fun p => isRef K (He.ga K "LETTERS") p.1 && tupA K (refAt K (He.ga K "LETTERS") p.1) (p.2.map V.str)
theorem lookup_mem_fst {β : Type} : ∀ {l : List (Str × β)} {k : Str} {v : β}, l.lookup k = some v → (k, v) ∈ l := fun h => lookup_mem h
theorem lookup_none_fst {β : Type} {l : List (Str × β)} {k : Str} (h : l.lookup k = none) : k ∉ l.map (·.1) := fun hm => by
  obtain ⟨p, hp, e⟩ := List.mem_map.mp hm
  induction l with
  | nil => cases hp
  | cons q r ih =>
    obtain ⟨a, b⟩ := q
    rw [List.lookup_cons] at h
    split at h
    · cases h
    · rename_i hne
      rcases List.mem_cons.mp hp with z | z
      · subst z
        have e : a = k := e
        rw [e] at hne
        simp at hne
      · exact ih h (List.mem_map.mpr ⟨p, z, e⟩) z
theorem let_ok {fa : List He.Fa} {fn : List He.DefD} {ts : List He.Tab} {w : World} (c : He.SaysT fa fn ts w K) (ht : letTab ∈ ts) (h : letB K = true) : LetOk K w := by
  obtain ⟨h1, h2⟩ := b2 h
  have d := tab_at c ht
  obtain ⟨es, n, kd⟩ := He.dicW_ok d
  refine ⟨_, gB_ok h1, ⟨_, _, kd⟩, fun z => ?_⟩
  cases e : tab.lookup z with
  | none => exact ⟨none, dic_out d (lookup_none_fst e), rfl⟩
  | some ls =>
    obtain ⟨h3, h4⟩ := b2 (List.all_eq_true.mp h2 _ (lookup_mem_fst e))
    exact ⟨_, of_decide_eq_true h3, _, rfl, (tupA_ok h4).sq⟩
def bndTab : He.Tab := (fun K => He.ga K "BOUNDS", bnd.map (·.1))
def bndB (K : PySem.W.Frag) : Bool := gB K "BOUNDS" && bnd.all fun p => isRef K (He.ga K "BOUNDS") p.1 && tupA K (refAt K (He.ga K "BOUNDS") p.1) [.int p.2.1, .int p.2.2]
theorem bnd_ok {fa : List He.Fa} {fn : List He.DefD} {ts : List He.Tab} {w : World} (c : He.SaysT fa fn ts w K) (ht : bndTab ∈ ts) (h : bndB K = true) : BndOk K w := by
  obtain ⟨h1, h2⟩ := b2 h
  obtain ⟨es, n, kd⟩ := He.dicW_ok (tab_at c ht)
  refine ⟨_, gB_ok h1, ⟨_, _, kd⟩, fun p hp => ?_⟩
  obtain ⟨h3, h4⟩ := b2 (List.all_eq_true.mp h2 _ hp)
  exact ⟨_, of_decide_eq_true h3, (tupA_ok h4).sq⟩
def limB (K : PySem.W.Frag) : Bool := gB K "LIMITS" && (tupA K (He.ga K "LIMITS") [.ref (itemAt K (He.ga K "LIMITS") 0), .ref (itemAt K (He.ga K "LIMITS") 1), .ref (itemAt K (He.ga K "LIMITS") 2)] &&
  (tupA K (itemAt K (He.ga K "LIMITS") 0) [.int 2, .ref (itemAt K (itemAt K (He.ga K "LIMITS") 0) 1)] && (tupA K (itemAt K (itemAt K (He.ga K "LIMITS") 0) 1) [.str "sums", .str "anew", .str "gaps", .str "groups", .str "count"] &&
  (tupA K (itemAt K (He.ga K "LIMITS") 1) [.int 2, .ref (itemAt K (itemAt K (He.ga K "LIMITS") 1) 1)] && (tupA K (itemAt K (itemAt K (He.ga K "LIMITS") 1) 1) [.str "turn", .str "keep", .str "anew"] &&
  (tupA K (itemAt K (He.ga K "LIMITS") 2) [.int 1, .ref (itemAt K (itemAt K (He.ga K "LIMITS") 2) 1)] && tupA K (itemAt K (itemAt K (He.ga K "LIMITS") 2) 1) [.str "twice"]))))))
theorem lim_ok (h : limB K = true) : LimOk K := by
  obtain ⟨h0, h⟩ := b2 h
  obtain ⟨h1, h⟩ := b2 h
  obtain ⟨h2, h⟩ := b2 h
  obtain ⟨h3, h⟩ := b2 h
  obtain ⟨h4, h⟩ := b2 h
  obtain ⟨h5, h⟩ := b2 h
  obtain ⟨h6, h7⟩ := b2 h
  exact limOk_ (gB_ok h0) (tupA_ok h1) (tupA_ok h2) (tupA_ok h3) (tupA_ok h4) (tupA_ok h5) (tupA_ok h6) (tupA_ok h7)
def givL : List (Str × Str) := [("line", "give_line"), ("turn", "give_turn"), ("keep", "give_keep"), ("every", "give_every"), ("twice", "give_twice"), ("sums", "give_sums"), ("anew", "give_anew"), ("gaps", "give_gaps"), ("groups", "give_groups"), ("count", "give_count")]
def givTab : He.Tab := (fun K => He.ga K "GIVERS", givL.map (·.1))
def givB (K : PySem.W.Frag) : Bool := gB K "GIVERS" && givL.all fun p => gB K p.2 && decide (PySem.W.nsIn K (He.ga K "GIVERS") p.1 = some (some (.ref (He.ga K p.2))))
theorem giv_ok {fa : List He.Fa} {fn : List He.DefD} {ts : List He.Tab} {w : World} (c : He.SaysT fa fn ts w K) (ht : givTab ∈ ts) (h : givB K = true) : GivOk K w := by
  obtain ⟨h1, h2⟩ := b2 h
  have at_ : ∀ p ∈ givL, ∃ f, PySem.W.nsIn K (He.ga K "GIVERS") p.1 = some (some (.ref f)) ∧ PySem.W.nsIn K mainGlobals p.2 = some (some (.ref f)) := fun p hp => by
    obtain ⟨h3, h4⟩ := b2 (List.all_eq_true.mp h2 _ hp)
    exact ⟨_, of_decide_eq_true h4, gB_ok h3⟩
  have mem : ∀ i (hi : i < givL.length), givL[i] ∈ givL := fun i hi => List.getElem_mem hi
  exact ⟨_, gB_ok h1, He.dicW_ok (tab_at c ht), at_ _ (mem 0 (by decide)), at_ _ (mem 1 (by decide)), at_ _ (mem 2 (by decide)), at_ _ (mem 3 (by decide)), at_ _ (mem 4 (by decide)), at_ _ (mem 5 (by decide)), at_ _ (mem 6 (by decide)), at_ _ (mem 7 (by decide)), at_ _ (mem 8 (by decide)), at_ _ (mem 9 (by decide))⟩
/-! ### defs, classes, errors -/
theorem defOk_of {fa : List He.Fa} {fn : List He.DefD} {x : Str} {st : Stmt} (c : He.SaysD fa fn K) (g : He.Fa.glo x ∈ fa) (hm : (⟨(x, none), x, x, defArgs st, defBody st, defScope st, [], []⟩ : He.DefD) ∈ fn) : DefOk K x st := by
  obtain ⟨fd, F⟩ := c.defs hm
  exact ⟨_, fd, glo_at (c.facts g), He5.fun_of F⟩
theorem lawAt_of {fa : List He.Fa} {fn : List He.DefD} {ts : List He.Tab} {tf : List He.Defn} {ex : PySem.W.Frag → Bool} {w : World} {h : Heap} {x : Str} {st : Stmt} (c : He.SaysX fa fn ts tf ex w h K) (g : He.Fa.glo x ∈ fa) (hm : (⟨(x, none), x, x, defArgs st, defBody st, defScope st, [], []⟩ : He.DefD) ∈ fn) (ht : (x, none) ∈ tf) :
    ∃ (f cc : Addr) (oc kV doc pm ct : Value) (an od : Option Addr) (osl : Array (Option Value)), PySem.W.nsIn K mainGlobals x = some (some (.ref f)) ∧ K.lookup f = some ⟨oc, od, .func (PySem.W.fnOf x x (defArgs st) (defBody st) (defScope st) .none kV doc pm an (.ref cc) ct), osl⟩ ∧ PySem.W.codeIn K (.ref cc) x = true ∧
      PySem.W.keepIn K (.ref f) = true ∧ PySem.W.codeHdIn K cc (He.cT K (x, none)).2 = true := by
  obtain ⟨fd, F⟩ := c.t.d.defs hm
  have F2 := He5.fun_of F
  obtain ⟨oc, od, kV, doc, pm, an, cdv, ct, osl, e, l, q⟩ := F2.ex
  subst e
  obtain ⟨cc, rfl⟩ := He.codeIn_ref q
  have hd := c.hd _ ht
  rw [show (He.cT K (x, none)).1 = cc from He.codeOf_eq (p := (x, none)) l rfl] at hd
  exact ⟨_, cc, oc, kV, doc, pm, ct, an, od, osl, glo_at (c.t.d.facts g), l, q, F2.kp, hd⟩
def excB (K : PySem.W.Frag) (C : Addr) : Bool := decide (PySem.W.excIn K C [.type "ValueError", .type "Exception", .type "BaseException", .type "object"] "ValueError.__new__" = true) && (decide (PySem.W.keepIn K (.ref C) = true) && (decide (PySem.W.subIn K (.ref C) (.type "BaseException") = some true) && decide (PySem.W.typeIn K (.ref C) = some (.type "type"))))
theorem exc_ok {C : Addr} (h : excB K C = true) : ExcQ K C := by
  obtain ⟨h1, h⟩ := b2 h
  obtain ⟨h2, h⟩ := b2 h
  obtain ⟨h3, h4⟩ := b2 h
  exact ⟨of_decide_eq_true h1, of_decide_eq_true h2, of_decide_eq_true h3, of_decide_eq_true h4⟩
def nhB (K : PySem.W.Frag) : Bool := gB K "NOTHING_HELD" && tupA K (He.ga K "NOTHING_HELD") [.int 0, .int 0]
theorem nh_ok (h : nhB K = true) : PySem.W.nsIn K mainGlobals "NOTHING_HELD" = some (some (.ref (He.ga K "NOTHING_HELD"))) ∧ TupV K (He.ga K "NOTHING_HELD") [.int 0, .int 0] := by
  obtain ⟨h1, h2⟩ := b2 h
  exact ⟨gB_ok h1, tupA_ok h2⟩
def intB (K : PySem.W.Frag) (x : Str) (i : Int) : Bool := match PySem.W.nsIn K mainGlobals x with
  | some (some (.int j _)) => decide (j = i)
  | _ => false
theorem int_at {x : Str} {i : Int} (h : intB K x i = true) : ∃ t, PySem.W.nsIn K mainGlobals x = some (some (.int i t)) := by
  unfold intB at h
  cases q : PySem.W.nsIn K mainGlobals x with
  | none => rw [q] at h; cases h
  | some r =>
    rw [q] at h
    cases r with
    | none => cases h
    | some u =>
      cases u with
      | int j t => exact ⟨t, by rw [of_decide_eq_true h]⟩
      | _ => cases h
end
end FC
set_option Elab.async false
set_option linter.all false
set_option maxRecDepth 100000
set_option maxHeartbeats 4000000
/-! The errors by one look. -/
namespace FC
open PySem PySem.Spec PyProof.Rows L2
section
variable {K : PySem.W.Frag}
def kitB6 (K : PySem.W.Frag) (D : Addr) (c : Value) (b : Bool) : Bool := decide (PySem.W.kitOne K (.ref D) c = some b)
def excCB (K : PySem.W.Frag) (D : Addr) : Bool := decide (PySem.W.findIn K (.ref D) "__getattribute__" = some (some (.builtin "BaseException.__getattribute__"))) && (decide (PySem.W.findIn K (.ref D) "__getattr__" = some none) && (decide (PySem.W.subIn K (.ref D) (.type "BaseException") = some true) && (decide (PySem.W.hasDictIn K D = true) &&
  (decide (PySem.W.findIn K (.ref D) "__class__" = some (some (.builtin "object.__class__"))) && (decide (PySem.W.specialIn K (.builtin "object.__class__") "__get__" = some (some (.builtin "getset_descriptor.__get__"))) && (decide (PySem.W.takesIn K (.builtin "object.__class__") = some true) && decide (PySem.W.mroIn K D (.type "object") = some true)))))))
theorem excC_ok {D : Addr} (h : excCB K D = true) : ExcC K D := by
  obtain ⟨h1, h⟩ := b2 h
  obtain ⟨h2, h⟩ := b2 h
  obtain ⟨h3, h⟩ := b2 h
  obtain ⟨h4, h⟩ := b2 h
  obtain ⟨h5, h⟩ := b2 h
  obtain ⟨h6, h⟩ := b2 h
  obtain ⟨h7, h8⟩ := b2 h
  exact ⟨of_decide_eq_true h1, of_decide_eq_true h2, of_decide_eq_true h3, of_decide_eq_true h4, of_decide_eq_true h5, of_decide_eq_true h6, of_decide_eq_true h7, of_decide_eq_true h8⟩
def oneB (K : PySem.W.Frag) (D : Addr) (i : Nat) (c0 c1 c2 c3 c4 c5 : Addr) : Bool := decide (i < 6) && (excCB K D && (kitB6 K D (.ref c0) (decide (0 = i)) && (kitB6 K D (.ref c1) (decide (1 = i)) && (kitB6 K D (.ref c2) (decide (2 = i)) && (kitB6 K D (.ref c3) (decide (3 = i)) && (kitB6 K D (.ref c4) (decide (4 = i)) && (kitB6 K D (.ref c5) (decide (5 = i)) && kitB6 K D (.type "ValueError") true)))))))
theorem one_ok {D c0 c1 c2 c3 c4 c5 : Addr} {i : Nat} (h : oneB K D i c0 c1 c2 c3 c4 c5 = true) : OneT K D i c0 c1 c2 c3 c4 c5 := by
  obtain ⟨h0, h⟩ := b2 h
  obtain ⟨h1, h⟩ := b2 h
  obtain ⟨h2, h⟩ := b2 h
  obtain ⟨h3, h⟩ := b2 h
  obtain ⟨h4, h⟩ := b2 h
  obtain ⟨h5, h⟩ := b2 h
  obtain ⟨h6, h⟩ := b2 h
  obtain ⟨h7, h8⟩ := b2 h
  exact ⟨of_decide_eq_true h0, excC_ok h1, of_decide_eq_true h2, of_decide_eq_true h3, of_decide_eq_true h4, of_decide_eq_true h5, of_decide_eq_true h6, of_decide_eq_true h7, of_decide_eq_true h8⟩
/-- the i-th class by its name -/
def oneX (K : PySem.W.Frag) (i : Nat) (x : Str) : Bool := oneB K (He.ga K x) i (He.ga K "InvalidChain") (He.ga K "InvalidRow") (He.ga K "InvalidNumber") (He.ga K "InvalidText") (He.ga K "TooMany") (He.ga K "NothingToUndo") && decide (PySem.W.exmOne K (.ref (He.ga K x)) (.ref (He.ga K "ChainError")) = some true)
end
end FC
set_option Elab.async false
set_option linter.all false
set_option maxRecDepth 100000
set_option maxHeartbeats 4000000
/-! A look at the heap's first objects, all of them. -/
namespace FC
open PySem PySem.Spec PyProof.Rows L2
def firstN (N : Nat) : List Addr := mainGlobals :: List.range N
def obsR (N : Nat) (fa : List He.Fa) (fn : List He.DefD) (ts : List He.Tab) (tf : List He.Defn) (ex : PySem.W.Frag → Bool) (g : Addr → Option Obj) : He.AlX := (fun K => (He.obsT fa fn ts K, ex K && He.tabsB g tf K)) (He.frT g (firstN N))
theorem saysR_of {N : Nat} {fa : List He.Fa} {fn : List He.DefD} {ts : List He.Tab} {tf : List He.Defn} {ex : PySem.W.Frag → Bool} {w : World} {h : Heap} (e : obsR N fa fn ts tf ex h.get? = He.valX fn ts w) : He.SaysX fa fn ts tf ex w h (He.frT h.get? (firstN N)) := by
  have e1 : He.obsT fa fn ts (He.frT h.get? (firstN N)) = He.valT fn ts w := congrArg (fun z : He.AlX => z.1) e
  have e2 : (ex (He.frT h.get? (firstN N)) && He.tabsB h.get? tf (He.frT h.get? (firstN N))) = true := congrArg (fun z : He.AlX => z.2) e
  generalize hK : He.frT h.get? (firstN N) = K at e1 e2 ⊢
  obtain ⟨m1, m2⟩ := b2 e2
  have one : ∀ p ∈ tf, PySem.W.codeHdIn K (He.cT K p).1 (He.cT K p).2 = true ∧ ∃ o, h.get? (He.cT K p).2 = some o ∧ He.emptyTab o = true := fun p hp => by
    obtain ⟨m3, m4⟩ := b2 (List.all_eq_true.mp m2 p hp)
    cases q : h.get? (He.cT K p).2 with
    | none => rw [q] at m4; cases m4
    | some o => rw [q] at m4; exact ⟨m3, o, rfl, m4⟩
  refine ⟨e1, m1, fun p hp => (one p hp).1, fun p hp => ?_, fun p hp => ?_⟩
  · obtain ⟨_, o, q, z⟩ := one p hp
    rw [← hK] at q ⊢
    exact He.frT_none q z
  · obtain ⟨_, o, q, z⟩ := one p hp
    rw [q, He.emptyTab_eq z]
def hookR (N : Nat) (fa : List He.Fa) (fn : List He.DefD) (ts : List He.Tab) (tf : List He.Defn) (ex : PySem.W.Frag → Bool) : PySem.W.Hook where
  α := He.AlX
  obs := fun s => obsR N fa fn ts tf ex s.heap.get?
  val := fun w => He.valX fn ts w
  says := fun w h => ∃ K : PySem.W.Frag, K.In h ∧ He.SaysX fa fn ts tf ex w h K
  of := fun _ _ e => ⟨_, He.frT_in, saysR_of e⟩
  keeps := fun _ _ _ ⟨K, hK, c⟩ k => ⟨K, PySem.W.Frag.In.keeps hK k, ⟨c.t, c.more, c.hd, c.out, fun p hp => k _ _ (c.empty p hp)⟩⟩
theorem obsR_eq {N : Nat} {fa : List He.Fa} {fn : List He.DefD} {ts : List He.Tab} {tf : List He.Defn} {ex : PySem.W.Frag → Bool} {g : Addr → Option Obj} {s : Shared} (h : ∀ a, g a = s.heap.get? a) : obsR N fa fn ts tf ex g = (hookR N fa fn ts tf ex).obs s := by
  rw [show g = s.heap.get? from funext h] <;> rfl
end FC
set_option Elab.async false
set_option linter.all false
set_option maxRecDepth 100000
set_option maxHeartbeats 4000000
/-! The table of numbers by one look. -/
namespace FC
open PySem PySem.Spec PyProof.Rows L2
section
variable {K : PySem.W.Frag}
def numTb : He.Tab := (fun K => He.ga K "NUMBERS", numTab.map (·.1))
def intAt (K : PySem.W.Frag) (d : Addr) (z : Str) (i : Int) : Bool := match PySem.W.nsIn K d z with
  | some (some (.int j _)) => decide (j = i)
  | _ => false
def numB (K : PySem.W.Frag) : Bool := gB K "NUMBERS" && numTab.all fun p => intAt K (He.ga K "NUMBERS") p.1 p.2
theorem num_ok {fa : List He.Fa} {fn : List He.DefD} {ts : List He.Tab} {w : World} (c : He.SaysT fa fn ts w K) (ht : numTb ∈ ts) (h : numB K = true) : NumOk K w := by
  obtain ⟨h1, h2⟩ := b2 h
  have d := tab_at c ht
  obtain ⟨es, n, kd⟩ := He.dicW_ok d
  refine ⟨_, gB_ok h1, ⟨_, _, kd⟩, fun z => ?_⟩
  cases e : numTab.lookup z with
  | none => exact ⟨none, dic_out d (lookup_none_fst e), rfl⟩
  | some i =>
    have h3 := List.all_eq_true.mp h2 _ (lookup_mem_fst e)
    unfold intAt at h3
    dsimp only at h3
    cases q : PySem.W.nsIn K (He.ga K "NUMBERS") z with
    | none => rw [q] at h3; cases h3
    | some r =>
      rw [q] at h3
      cases r with
      | none => cases h3
      | some u =>
        cases u with
        | int j t =>
          have h4 : j = i := of_decide_eq_true h3
          exact ⟨_, rfl, t, by rw [h4]⟩
        | _ => cases h3
end
end FC
set_option Elab.async false
set_option linter.all false
set_option maxRecDepth 100000
set_option maxHeartbeats 4000000
/-! The class of feeds by one look. -/
namespace FC
open PySem PySem.Spec PyProof.Rows L2
section
variable {K : PySem.W.Frag}
def noAt (K : PySem.W.Frag) (C : Addr) (x : Str) : Bool := decide (PySem.W.findIn K (.ref C) x = some none)
def feedB (K : PySem.W.Frag) : Bool := gB K "Feed" && (decide (PySem.W.plainGet K (He.ga K "Feed") Str.empty = true) && (decide (PySem.W.hasDictIn K (He.ga K "Feed") = true) && (decide (PySem.W.plainOver K (He.ga K "Feed") = true) && (decide (PySem.W.findIn K (.ref (He.ga K "Feed")) "__setattr__" = some (some (.builtin "object.__setattr__"))) &&
  (noAt K (He.ga K "Feed") "chain" && (noAt K (He.ga K "Feed") "numbers" && (noAt K (He.ga K "Feed") "answers" && (noAt K (He.ga K "Feed") "states" && (noAt K (He.ga K "Feed") "undone" && (decide (PySem.W.makesIn K (He.ga K "Feed") = true) && decide (PySem.W.keepIn K (.ref (He.ga K "Feed")) = true)))))))))))
theorem feed_ok (h : feedB K = true) : ClsF K (He.ga K "Feed") := by
  obtain ⟨h0, h⟩ := b2 h
  obtain ⟨h1, h⟩ := b2 h
  obtain ⟨h2, h⟩ := b2 h
  obtain ⟨h3, h⟩ := b2 h
  obtain ⟨h4, h⟩ := b2 h
  obtain ⟨h5, h⟩ := b2 h
  obtain ⟨h6, h⟩ := b2 h
  obtain ⟨h7, h⟩ := b2 h
  obtain ⟨h8, h⟩ := b2 h
  obtain ⟨h9, h⟩ := b2 h
  obtain ⟨h10, h11⟩ := b2 h
  exact ⟨gB_ok h0, of_decide_eq_true h1, of_decide_eq_true h2, of_decide_eq_true h3, of_decide_eq_true h4, of_decide_eq_true h5, of_decide_eq_true h6, of_decide_eq_true h7, of_decide_eq_true h8, of_decide_eq_true h9, of_decide_eq_true h10, of_decide_eq_true h11⟩
theorem methOk_of {fa : List He.Fa} {fn : List He.DefD} {x m q : Str} {st : Stmt} (c : He.SaysD fa fn K) (g : He.Fa.meth x m ∈ fa) (hm : (⟨(x, some m), m, q, defArgs st, defBody st, defScope st, [], []⟩ : He.DefD) ∈ fn) : MethOk K (He.ga K x) m q st := by
  obtain ⟨fd, F⟩ := c.defs hm
  exact ⟨_, fd, He5.fun_of F, He.meth_ok (c.facts g)⟩
def eqB (K : PySem.W.Frag) (C : Addr) : Bool := decide (PySem.W.findIn K (.ref C) "__class__" = some (some (.builtin "object.__class__"))) && (decide (PySem.W.specialIn K (.builtin "object.__class__") "__get__" = some (some (.builtin "getset_descriptor.__get__"))) && (decide (PySem.W.takesIn K (.builtin "object.__class__") = some true) && (decide (PySem.W.mroIn K C (.type "object") = some true) && (decide (PySem.W.kitOne K (.ref C) (.ref C) = some true) && decide (PySem.W.kitOne K (.type "int") (.ref C) = some false)))))
theorem eq_ok {C : Addr} (h : eqB K C = true) : EqF K C := by
  obtain ⟨h1, h⟩ := b2 h
  obtain ⟨h2, h⟩ := b2 h
  obtain ⟨h3, h⟩ := b2 h
  obtain ⟨h4, h⟩ := b2 h
  obtain ⟨h5, h6⟩ := b2 h
  exact ⟨of_decide_eq_true h1, of_decide_eq_true h2, of_decide_eq_true h3, of_decide_eq_true h4, of_decide_eq_true h5, of_decide_eq_true h6⟩
end
end FC
set_option Elab.async false
set_option linter.all false
set_option maxRecDepth 100000
set_option maxHeartbeats 0
namespace FC
open PySem PySem.Spec PyProof.Rows L2
def hFn_0 : List He.DefD := [⟨("is_chain", none), "is_chain", "is_chain", defArgs sIsChain, defBody sIsChain, defScope sIsChain, [], []⟩,
  ⟨("check_chain", none), "check_chain", "check_chain", defArgs sCheck, defBody sCheck, defScope sCheck, [], []⟩,
  ⟨("is_whole", none), "is_whole", "is_whole", defArgs sIsWhole, defBody sIsWhole, defScope sIsWhole, [], []⟩,
  ⟨("is_step", none), "is_step", "is_step", defArgs sIsStep, defBody sIsStep, defScope sIsStep, [], []⟩,
  ⟨("are_within", none), "are_within", "are_within", defArgs sWithin, defBody sWithin, defScope sWithin, [], []⟩,
  ⟨("keeps_limits", none), "keeps_limits", "keeps_limits", defArgs sLimits, defBody sLimits, defScope sLimits, [], []⟩,
  ⟨("is_number", none), "is_number", "is_number", defArgs sIsNumber, defBody sIsNumber, defScope sIsNumber, [], []⟩,
  ⟨("check_row", none), "check_row", "check_row", defArgs sCheckRow, defBody sCheckRow, defScope sCheckRow, [], []⟩,
  ⟨("give_line", none), "give_line", "give_line", defArgs sGvLine, defBody sGvLine, defScope sGvLine, [], []⟩,
  ⟨("give_turn", none), "give_turn", "give_turn", defArgs sGvTurn, defBody sGvTurn, defScope sGvTurn, [], []⟩,
  ⟨("give_keep", none), "give_keep", "give_keep", defArgs sGvKeep, defBody sGvKeep, defScope sGvKeep, [], []⟩,
  ⟨("give_every", none), "give_every", "give_every", defArgs sGvEvery, defBody sGvEvery, defScope sGvEvery, [], []⟩,
  ⟨("give_twice", none), "give_twice", "give_twice", defArgs sGvTwice, defBody sGvTwice, defScope sGvTwice, [], []⟩,
  ⟨("give_sums", none), "give_sums", "give_sums", defArgs sGvSums, defBody sGvSums, defScope sGvSums, [], []⟩,
  ⟨("give_anew", none), "give_anew", "give_anew", defArgs sGvAnew, defBody sGvAnew, defScope sGvAnew, [], []⟩,
  ⟨("give_gaps", none), "give_gaps", "give_gaps", defArgs sGvGaps, defBody sGvGaps, defScope sGvGaps, [], []⟩,
  ⟨("give_groups", none), "give_groups", "give_groups", defArgs sGvGroups, defBody sGvGroups, defScope sGvGroups, [], []⟩,
  ⟨("give_count", none), "give_count", "give_count", defArgs sGvCount, defBody sGvCount, defScope sGvCount, [], []⟩,
  ⟨("pass_through", none), "pass_through", "pass_through", defArgs sPassT, defBody sPassT, defScope sPassT, [], []⟩,
  ⟨("start", none), "start", "start", defArgs sStartP, defBody sStartP, defScope sStartP, [], []⟩,
  ⟨("advance", none), "advance", "advance", defArgs sAdvance, defBody sAdvance, defScope sAdvance, [], []⟩,
  ⟨("run_on", none), "run_on", "run_on", defArgs sRunOn, defBody sRunOn, defScope sRunOn, [], []⟩,
  ⟨("run", none), "run", "run", defArgs sRunP, defBody sRunP, defScope sRunP, [], []⟩,
  ⟨("read_step", none), "read_step", "read_step", defArgs sReadStep, defBody sReadStep, defScope sReadStep, [], []⟩,
  ⟨("parse_chain", none), "parse_chain", "parse_chain", defArgs sParse, defBody sParse, defScope sParse, [], []⟩,
  ⟨("mix", none), "mix", "mix", defArgs sMix, defBody sMix, defScope sMix, [], []⟩,
  ⟨("_law_cell", none), "_law_cell", "_law_cell", defArgs sCell, defBody sCell, defScope sCell, [], []⟩,
  ⟨("_law_drawn", none), "_law_drawn", "_law_drawn", defArgs sDrawn, defBody sDrawn, defScope sDrawn, [], []⟩,
  ⟨("_law_roll", none), "_law_roll", "_law_roll", defArgs sRoll, defBody sRoll, defScope sRoll, [], []⟩,
  ⟨("_law_rounds", none), "_law_rounds", "_law_rounds", defArgs sRounds, defBody sRounds, defScope sRounds, [], []⟩]
def hFn_1 : List He.DefD := [⟨("_law_term", none), "_law_term", "_law_term", defArgs sTerm, defBody sTerm, defScope sTerm, [], []⟩,
  ⟨("_law_told", none), "_law_told", "_law_told", defArgs sTold, defBody sTold, defScope sTold, [], []⟩,
  ⟨("law", none), "law", "law", defArgs sLaw, defBody sLaw, defScope sLaw, [], []⟩,
  ⟨("_law_right_numbers", none), "_law_right_numbers", "_law_right_numbers", defArgs sRightN, defBody sRightN, defScope sRightN, [], []⟩,
  ⟨("Feed", some "__init__"), "__init__", "Feed.__init__", defArgs (fdM 0), defBody (fdM 0), defScope (fdM 0), [], []⟩,
  ⟨("Feed", some "put"), "put", "Feed.put", defArgs (fdM 1), defBody (fdM 1), defScope (fdM 1), [], []⟩,
  ⟨("Feed", some "given"), "given", "Feed.given", defArgs (fdM 5), defBody (fdM 5), defScope (fdM 5), [], []⟩,
  ⟨("Feed", some "take"), "take", "Feed.take", defArgs (fdM 6), defBody (fdM 6), defScope (fdM 6), [], []⟩]
def hFn : List He.DefD := hFn_0 ++ hFn_1
def hFa_0 : List He.Fa := [.glo "is_chain",
  .glo "check_chain",
  .glo "is_whole",
  .glo "is_step",
  .glo "are_within",
  .glo "keeps_limits",
  .glo "is_number",
  .glo "check_row",
  .glo "give_line",
  .glo "give_turn",
  .glo "give_keep",
  .glo "give_every",
  .glo "give_twice",
  .glo "give_sums",
  .glo "give_anew",
  .glo "give_gaps",
  .glo "give_groups",
  .glo "give_count",
  .glo "pass_through",
  .glo "start",
  .glo "advance",
  .glo "run_on",
  .glo "run",
  .glo "read_step",
  .glo "parse_chain",
  .glo "mix",
  .glo "_law_cell",
  .glo "_law_drawn",
  .glo "_law_roll",
  .glo "_law_rounds"]
def hFa_1 : List He.Fa := [.glo "_law_term",
  .glo "_law_told",
  .glo "law",
  .glo "_law_right_numbers",
  .glo "InvalidChain",
  .glo "InvalidRow",
  .glo "InvalidNumber",
  .glo "InvalidText",
  .glo "TooMany",
  .glo "NothingToUndo",
  .glo "ChainError",
  .free "isinstance",
  .free "int",
  .free "bool",
  .free "str",
  .free "tuple",
  .free "len",
  .free "all",
  .free "zip",
  .free "range",
  .free "max",
  .free "min",
  .free "sum",
  .free "ValueError",
  .meth "Feed" "__init__",
  .meth "Feed" "put",
  .meth "Feed" "given",
  .meth "Feed" "take"]
def hFa : List He.Fa := hFa_0 ++ hFa_1
def hTs : List He.Tab := [letTab, bndTab, givTab, numTb]
def hTf : List He.Defn := [("law", none), ("_law_right_numbers", none)]
def hEx (K : PySem.W.Frag) : Bool := [
  letB K,
  bndB K,
  limB K,
  intB K "MOST_STEPS" 4,
  givB K,
  nhB K,
  intB K "MOST_NUMBERS" 60,
  intB K "GREATEST" big,
  numB K,
  oneX K 0 "InvalidChain",
  oneX K 1 "InvalidRow",
  oneX K 2 "InvalidNumber",
  excB K (He.ga K "InvalidChain"),
  excB K (He.ga K "InvalidRow"),
  excB K (He.ga K "InvalidNumber"),
  excB K (He.ga K "InvalidText"),
  excB K (He.ga K "TooMany"),
  feedB K,
  decide ((He.cT K ("law", none)).2 ≠ (He.cT K ("_law_right_numbers", none)).2)].all id
theorem hex {K : PySem.W.Frag} (h : hEx K = true) : ∀ b, b ∈ [
  letB K,
  bndB K,
  limB K,
  intB K "MOST_STEPS" 4,
  givB K,
  nhB K,
  intB K "MOST_NUMBERS" 60,
  intB K "GREATEST" big,
  numB K,
  oneX K 0 "InvalidChain",
  oneX K 1 "InvalidRow",
  oneX K 2 "InvalidNumber",
  excB K (He.ga K "InvalidChain"),
  excB K (He.ga K "InvalidRow"),
  excB K (He.ga K "InvalidNumber"),
  excB K (He.ga K "InvalidText"),
  excB K (He.ga K "TooMany"),
  feedB K,
  decide ((He.cT K ("law", none)).2 ≠ (He.cT K ("_law_right_numbers", none)).2)] → b = true := fun b hb => List.all_eq_true.mp h b hb
theorem head_facts {l : PySem.W.OpenLaw} {w : World} {K : PySem.W.Frag} {h : Heap} {mg : Str → Option Value} {fa : Addr} (X : K.In h) (G : h.Ns mainGlobals mg) (hfa : mg "law" = some (.ref fa)) (c : He.SaysX hFa hFn hTs hTf hEx w h K) : LamX.LawAtS l w K CX0 13 63 "_law_script" mg fa h := by
  have E := hex c.more
  have cd := c.t.d
  have mf : ∀ (i : Nat) {f : He.Fa}, hFa[i]? = some f → f ∈ hFa := fun i f e => List.mem_of_getElem? e
  have md : ∀ (i : Nat) {d : He.DefD}, hFn[i]? = some d → d ∈ hFn := fun i d e => List.mem_of_getElem? e
  have e0 := E _ (List.mem_of_getElem? (i := 0) rfl)
  have e1 := E _ (List.mem_of_getElem? (i := 1) rfl)
  have e2 := E _ (List.mem_of_getElem? (i := 2) rfl)
  have e3 := E _ (List.mem_of_getElem? (i := 3) rfl)
  have e4 := E _ (List.mem_of_getElem? (i := 4) rfl)
  have e5 := E _ (List.mem_of_getElem? (i := 5) rfl)
  have e6 := E _ (List.mem_of_getElem? (i := 6) rfl)
  have e7 := E _ (List.mem_of_getElem? (i := 7) rfl)
  have e8 := E _ (List.mem_of_getElem? (i := 8) rfl)
  have e9 := E _ (List.mem_of_getElem? (i := 9) rfl)
  have e10 := E _ (List.mem_of_getElem? (i := 10) rfl)
  have e11 := E _ (List.mem_of_getElem? (i := 11) rfl)
  have e12 := E _ (List.mem_of_getElem? (i := 12) rfl)
  have e13 := E _ (List.mem_of_getElem? (i := 13) rfl)
  have e14 := E _ (List.mem_of_getElem? (i := 14) rfl)
  have e15 := E _ (List.mem_of_getElem? (i := 15) rfl)
  have e16 := E _ (List.mem_of_getElem? (i := 16) rfl)
  have e17 := E _ (List.mem_of_getElem? (i := 17) rfl)
  have e18 := E _ (List.mem_of_getElem? (i := 18) rfl)
  obtain ⟨t3, i3⟩ := int_at e3
  obtain ⟨nh1, nh2⟩ := nh_ok e5
  obtain ⟨t6, i6⟩ := int_at e6
  obtain ⟨t7, i7⟩ := int_at e7
  obtain ⟨o0, p0⟩ := b2 e9
  obtain ⟨o1, p1⟩ := b2 e10
  obtain ⟨o2, p2⟩ := b2 e11
  have FD : FeedOk K := ⟨_, feed_ok e17, methOk_of cd (mf 54 rfl) (md 34 rfl), methOk_of cd (mf 55 rfl) (md 35 rfl), methOk_of cd (mf 56 rfl) (md 36 rfl), methOk_of cd (mf 57 rfl) (md 37 rfl)⟩
  obtain ⟨f, cc, oc, kV, doc, pm, ct, an, od, osl, aF, lF, cF, kF, hF⟩ := lawAt_of (x := "law") (st := sLaw) c (mf 32 rfl) (md 32 rfl) (List.mem_of_getElem? (i := 0) rfl)
  obtain ⟨f', cc', oc', kV', doc', pm', ct', an', od', osl', aR, lR, cR, kR, hR⟩ := lawAt_of (x := "_law_right_numbers") (st := sRightN) c (mf 33 rfl) (md 33 rfl) (List.mem_of_getElem? (i := 1) rfl)
  have D : DefsOk K := ⟨defOk_of cd (mf 0 rfl) (md 0 rfl), defOk_of cd (mf 1 rfl) (md 1 rfl), defOk_of cd (mf 2 rfl) (md 2 rfl), defOk_of cd (mf 3 rfl) (md 3 rfl), defOk_of cd (mf 4 rfl) (md 4 rfl), defOk_of cd (mf 5 rfl) (md 5 rfl), defOk_of cd (mf 6 rfl) (md 6 rfl), defOk_of cd (mf 7 rfl) (md 7 rfl), defOk_of cd (mf 8 rfl) (md 8 rfl), defOk_of cd (mf 9 rfl) (md 9 rfl), defOk_of cd (mf 10 rfl) (md 10 rfl), defOk_of cd (mf 11 rfl) (md 11 rfl), defOk_of cd (mf 12 rfl) (md 12 rfl), defOk_of cd (mf 13 rfl) (md 13 rfl), defOk_of cd (mf 14 rfl) (md 14 rfl), defOk_of cd (mf 15 rfl) (md 15 rfl), defOk_of cd (mf 16 rfl) (md 16 rfl), defOk_of cd (mf 17 rfl) (md 17 rfl), defOk_of cd (mf 18 rfl) (md 18 rfl), defOk_of cd (mf 19 rfl) (md 19 rfl), defOk_of cd (mf 20 rfl) (md 20 rfl), defOk_of cd (mf 21 rfl) (md 21 rfl), defOk_of cd (mf 22 rfl) (md 22 rfl), defOk_of cd (mf 23 rfl) (md 23 rfl), defOk_of cd (mf 24 rfl) (md 24 rfl), defOk_of cd (mf 25 rfl) (md 25 rfl), defOk_of cd (mf 26 rfl) (md 26 rfl), defOk_of cd (mf 27 rfl) (md 27 rfl), defOk_of cd (mf 28 rfl) (md 28 rfl), defOk_of cd (mf 29 rfl) (md 29 rfl), defOk_of cd (mf 30 rfl) (md 30 rfl), defOk_of cd (mf 31 rfl) (md 31 rfl)⟩
  have Bt : BltOk K := ⟨free_at (cd.facts (mf 41 rfl)), free_at (cd.facts (mf 42 rfl)), free_at (cd.facts (mf 43 rfl)), free_at (cd.facts (mf 44 rfl)), free_at (cd.facts (mf 45 rfl)), free_at (cd.facts (mf 46 rfl)), free_at (cd.facts (mf 47 rfl)), free_at (cd.facts (mf 48 rfl)), free_at (cd.facts (mf 49 rfl)), free_at (cd.facts (mf 50 rfl)), free_at (cd.facts (mf 51 rfl)), free_at (cd.facts (mf 52 rfl)), free_at (cd.facts (mf 53 rfl))⟩
  exact look X G hfa (c.empty _ (List.mem_of_getElem? (i := 0) rfl)) (c.out _ (List.mem_of_getElem? (i := 0) rfl)) (c.empty _ (List.mem_of_getElem? (i := 1) rfl)) (c.out _ (List.mem_of_getElem? (i := 1) rfl)) (of_decide_eq_true e18) D Bt (let_ok c.t (List.mem_of_getElem? (i := 0) rfl) e0) (bnd_ok c.t (List.mem_of_getElem? (i := 1) rfl) e1) (lim_ok e2) i3 (giv_ok c.t (List.mem_of_getElem? (i := 2) rfl) e4) nh1 nh2 i6 i7 (num_ok c.t (List.mem_of_getElem? (i := 3) rfl) e8) FD (clsOk (glo_at (cd.facts (mf 34 rfl))) (glo_at (cd.facts (mf 35 rfl))) (glo_at (cd.facts (mf 36 rfl))) (glo_at (cd.facts (mf 37 rfl))) (glo_at (cd.facts (mf 38 rfl))) (glo_at (cd.facts (mf 39 rfl))) (glo_at (cd.facts (mf 40 rfl))) (one_ok o0) (of_decide_eq_true p0) (one_ok o1) (of_decide_eq_true p1) (one_ok o2) (of_decide_eq_true p2) (exc_ok e12) (exc_ok e13) (exc_ok e14) (exc_ok e15) (exc_ok e16)) aF lF cF hF aR lR cR kR hR
abbrev hRow : PySem.W.OpenRow := PySem.W.OpenLaw.row PySem.Challenge.rw_foldchains_k21_whole_bounds
abbrev hHk : PySem.W.Hook := hookR 1000 hFa hFn hTs hTf hEx
def hOb (s : PySem.W.SharedT) : He.AlX := obsR 1000 hFa hFn hTs hTf hEx (HandSHeadRun.getT s)
theorem hOb_eq (s : PySem.W.SharedT) : hOb s = hHk.obs s.abs := obsR_eq (HandSHeadRun.getT_eq s)
def hLoose_0 : List Str := ["_wall",
  "__name__",
  "ChainError",
  "InvalidChain",
  "InvalidRow",
  "InvalidNumber",
  "InvalidText",
  "TooMany",
  "NothingToUndo",
  "MOST_STEPS",
  "LETTERS",
  "BOUNDS",
  "LIMITS",
  "is_chain",
  "check_chain",
  "is_whole",
  "is_step",
  "are_within",
  "keeps_limits",
  "MOST_NUMBERS",
  "GREATEST",
  "is_number",
  "check_row",
  "NOTHING_HELD",
  "give_line",
  "give_turn",
  "give_keep",
  "give_every",
  "give_twice",
  "give_sums"]
def hLoose_1 : List Str := ["give_anew",
  "give_gaps",
  "give_groups",
  "give_count",
  "GIVERS",
  "start",
  "advance",
  "pass_through",
  "run",
  "run_on",
  "Feed",
  "Groups",
  "count_line",
  "alike",
  "firsts_found",
  "only",
  "without_zeros",
  "divisor",
  "divided",
  "add_to",
  "combined",
  "shortened",
  "blended",
  "Span",
  "moduli_of",
  "modulus_ahead",
  "split_state",
  "Machine",
  "modulus_of",
  "free_anchors"]
def hLoose_2 : List Str := ["moves_told",
  "is_even",
  "goes_evenly",
  "told_rests",
  "spend_tests",
  "first_tests",
  "moves_by_group",
  "test_ahead",
  "refutes",
  "worth_of",
  "untied",
  "Table",
  "with_fractions",
  "fraction",
  "mix",
  "NUMBERS",
  "parse_chain",
  "read_step",
  "_law_cell",
  "_law_drawn",
  "_law_roll",
  "_law_rounds",
  "_law_term",
  "_law_told",
  "_law_right_numbers"]
def hLoose : List Str := hLoose_0 ++ hLoose_1 ++ hLoose_2
theorem hRun0 (w : World) : HandSHeadRun.RunEqI hRow (PySem.W.view hRow.prog [0, 99]) hHk hOb 9000 hLoose (w.withFollow "special-get-raises" false) := by
  unfold HandSHeadRun.RunEqI
  kernel_rfl
theorem hRun1 (w : World) : HandSHeadRun.RunEqI hRow (PySem.W.view hRow.prog [0, 99]) hHk hOb 9000 hLoose (w.withFollow "special-get-raises" true) := by
  unfold HandSHeadRun.RunEqI
  kernel_rfl
theorem hRun (w : World) : HandSHeadRun.RunEqI hRow (PySem.W.view hRow.prog [0, 99]) hHk hOb 9000 hLoose w := PySem.W.byRow2 "special-get-raises" hRun0 hRun1 w
end FC
open PySem PySem.W PySem.Calls PyProof.Rows
set_option maxRecDepth 100000 in
set_option maxHeartbeats 0 in
theorem PySem.Challenge.cw_foldchains_k21_whole_bounds_holds : PySem.Challenge.rw_foldchains_k21_whole_bounds.Holds := by
  w_on; o_law
  refine HandSHeadRun.head_imp (r := OpenLaw.row PySem.Challenge.rw_foldchains_k21_whole_bounds) (q := view (OpenLaw.row PySem.Challenge.rw_foldchains_k21_whole_bounds).prog [0, 99]) (H := FC.hHk) (ob := FC.hOb) (M := 9000) (loose := FC.hLoose) (d := HandSHeadRun.topDef (OpenLaw.row PySem.Challenge.rw_foldchains_k21_whole_bounds).prog 99) (kwd := []) FC.hOb_eq
    FC.hRun (by kernel_rfl) (by kernel_rfl) (by kernel_rfl) (by rfl) (by first | assumption | decide +kernel) (by decide +kernel) ⟨rfl, rfl, rfl, rfl, rfl, by decide +kernel⟩ ?hw ?hc
  case hw => w_witness2
  case hc =>
    refine LamX.walk_ofTsE (l := PySem.Challenge.rw_foldchains_k21_whole_bounds) (n := 63) (k := 13) (x := "_law_script") (CX := fun _ => L2.CX0) rfl (by decide) (by kernel_rfl) ⟨rfl, by decide, by decide⟩ ?F (fun _ _ _ _ _ z => z)
    intro w mg fa h Y G hmg0
    obtain ⟨K, KX, c⟩ := Y
    have hmg : mg ("law" : PySem.Str) = some (.ref fa) := by
      have e : (HandSHeadRun.topDef (OpenLaw.row PySem.Challenge.rw_foldchains_k21_whole_bounds).prog 99).name = ("law" : PySem.Str) := by kernel_rfl
      rw [← e]
      exact hmg0
    exact ⟨K, KX, FC.head_facts KX G hmg c⟩
